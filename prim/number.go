package prim

import "iter"

const (
	most  = 4    // how many bytes the greatest numbers have
	below = 0x80 // from here on a first byte tells a number below 0
)

// width is how many bytes a number has.
type width struct{ count int }

// holds tells whether a number fits: the bits ahead of the width's, and its first one, are all alike.
func (w width) holds(n int) bool {
	ahead := n >> (8*w.count - 1)
	return ahead == 0 || ahead == -1
}

// last are a list's last bytes, as many as the width has, without room behind them.
func (w width) last(all []byte) []byte {
	end := len(all)
	return all[end-w.count : end : end]
}

// number is one, and its width.
type number struct {
	width
	n int
}

// numberOf is a number with its least width; what no width holds is none.
func numberOf(n int) (number, error) {
	for i := range most {
		if v := (number{width: width{i + 1}, n: n}); v.holds(n) {
			return v, nil
		}
	}
	return number{}, noNumber{"more than four bytes are needed"}
}

func (v number) bytes() string {
	var all [most]byte
	for i := range most {
		all[most-1-i] = byte(v.n >> (8 * i))
	}
	return string(v.last(all[:]))
}

// add lays a byte behind those that were told so far.
func (v *number) add(b byte) {
	v.n = v.n<<8 | int(b)
	v.count++
}

// read is the number that a text's bytes are, if they are its least ones.
func read(s string) (number, error) {
	var v number
	var err error
told:
	for at, b := range bytesOf(s) {
		switch v.count {
		case most:
			err = fault{at: at, why: noNumber{"more than four bytes"}}
			break told
		case 0:
			if b >= below {
				v.n = -1 // its bits are what stands ahead of all bytes below 0
			}
			fallthrough
		default:
			v.add(b)
		}
	}
	if err == nil {
		err = v.check()
	}
	if err != nil {
		return number{}, err
	}
	return v, nil
}

// check says why a number can't have been told in so many bytes.
func (v number) check() error {
	if v.count == 0 {
		return fault{at: 0, why: noNumber{"no bytes"}}
	}
	least, _ := numberOf(v.n) // what four bytes told is a number
	if least.count < v.count {
		return fault{at: 0, why: noNumber{"fewer bytes would do"}}
	}
	return nil
}

// bytesOf are a text's bytes, each with its place.
func bytesOf(s string) iter.Seq2[int, byte] {
	return func(yield func(int, byte) bool) {
		for at := range len(s) {
			if !yield(at, s[at]) {
				return
			}
		}
	}
}

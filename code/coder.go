package code

import "iter"

const (
	room  = 24  // how many bits a group has at most
	fill  = '=' // stands for signs that miss
	least = 2   // fewer signs don't tell a byte
)

// coder turns groups of bytes into groups of signs, and back.
type coder struct {
	signs
	bytes int // how many a whole group has
	width int // how many signs it has
	bits  int // how many each sign tells
}

func baseCoder() *coder {
	c := &coder{bytes: 3, width: 4, bits: 6}
	c.take(0, sixes)
	return c
}

func hexCoder() *coder {
	c := &coder{bytes: 1, width: 2, bits: 4}
	c.take(ten, greats)
	c.take(0, digits)
	return c
}

// print are a text's signs.
func (c *coder) print(s string) string {
	var all []byte
	for _, group := range groups(s, c.bytes) {
		all = c.add(all, group)
	}
	return string(all)
}

// add lays the signs of a group of bytes behind others.
func (c *coder) add(to []byte, group string) []byte {
	bits := pack(group)
	for i := range c.width {
		if i*c.bits >= 8*len(group) {
			to = append(to, fill)
			continue
		}
		part := bits >> (room - c.bits*(i+1))
		to = append(to, c.sign(part&(1<<c.bits-1)))
	}
	return to
}

// read is the text that has just these signs.
func (c *coder) read(s string) (string, error) {
	var all []byte
	var err error
told:
	for at, group := range groups(s, c.width) {
		var bits, count int
		bits, count, err = c.told(at, group)
		if err == nil && count < c.width && at+c.width < len(s) {
			err = fault{at: at + c.width, why: errEnd}
		}
		if err != nil {
			break told
		}
		all = unpack(all, bits, c.whole(count))
	}
	if err != nil {
		return "", err
	}
	return string(all), nil
}

// whole is how many bytes so many signs tell.
func (c *coder) whole(count int) int { return count * c.bits / 8 }

// told are the bits of the group of signs at a place, the first one's the greatest, and how many signs there are ahead of the fill.
func (c *coder) told(at int, group string) (bits, count int, err error) {
	if len(group) < c.width {
		return 0, 0, fault{at: at + len(group), why: errCut}
	}
	for i, sign := range group {
		n, ok := c.number(sign)
		switch {
		case ok && count == i: // no fill is ahead of it
			bits |= n << (room - c.bits*(i+1))
			count++
		case sign == fill && i >= least:
		default:
			return 0, 0, fault{at: at + i, why: noSign{sign}}
		}
	}
	if bits&(1<<(room-8*c.whole(count))-1) != 0 {
		return 0, 0, fault{at: at + count - 1, why: errBits}
	}
	return bits, count, nil
}

// groups are a text's pieces of one length, each with its place; the last one may be shorter.
func groups(s string, length int) iter.Seq2[int, string] {
	return func(yield func(int, string) bool) {
		for at := 0; at < len(s); at += length {
			if !yield(at, s[at:min(at+length, len(s))]) {
				return
			}
		}
	}
}

// pack are the bits of one to three bytes, the first one's the greatest; those of bytes that miss are 0.
func pack(group string) int {
	bits := 0
	switch len(group) {
	case 3:
		bits |= int(group[2])
		fallthrough
	case 2:
		bits |= int(group[1]) << 8
		fallthrough
	case 1:
		bits |= int(group[0]) << 16
	}
	return bits
}

// unpack lays the first bytes of a group's bits behind others.
func unpack(to []byte, bits, count int) []byte {
	for i := range count {
		to = append(to, byte(bits>>(room-8*(i+1))))
	}
	return to
}

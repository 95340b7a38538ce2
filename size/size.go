// Package size is layer 1: lengths, as BER tells them (shared/doc/01-size.md).
package size

import "latiner/api"

const (
	long = 0x80 // added to how many bytes follow; below it a byte is a length itself
	most = 4    // how many may follow
)

// Encode are a length's least bytes.
func Encode(n int) (string, api.Errno) {
	if err := checkLength(n); err != nil {
		return "", errnoOf(err)
	}
	return leastBytes(n), api.OK
}

// Size is how many bytes a length's least ones are.
func Size(n int) (int, api.Errno) {
	if err := checkLength(n); err != nil {
		return 0, errnoOf(err)
	}
	if n < long {
		return 1, api.OK
	}
	return 1 + width(n), api.OK
}

// Decode is the length that the bytes at a place tell, and the place behind them.
func Decode(s string, at int) (int, int, api.Errno) {
	r := reader{text: text{s}, at: at}
	if err := r.follow(takeFirst, takeRest, checkNumber); err != nil {
		return 0, 0, errnoOf(err)
	}
	return int(r.number), r.at + 1 + r.count, api.OK
}

// IsLeast tells whether a length is told at a place, in its least bytes.
func IsLeast(s string, at int) bool {
	n, behind, e := Decode(s, at)
	return e == api.OK && s[at:behind] == leastBytes(n)
}

func checkLength(n int) error {
	if n < 0 || n > api.MaxSize {
		return noLength{n}
	}
	return nil
}

func leastBytes(n int) string {
	laid := make([]byte, 0, 1+most)
	lay := func(part int) { laid = append(laid, byte(part)) }
	if n < long {
		lay(n)
		return string(laid)
	}
	count := width(n)
	lay(long + count)
	for i := count - 1; i >= 0; i-- {
		lay(n >> (8 * i))
	}
	return string(laid)
}

// width is how many bytes a number above 0 takes, without noughts ahead.
func width(n int) int {
	count := 0
	for ; n > 0; n >>= 8 {
		count++
	}
	return count
}

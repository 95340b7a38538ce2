package dn

import "iter"

const mark = '\\' // is read with the byte behind it

// text is what is cut.
type text struct{ s string }

// piece are the bytes between two places.
func (t text) piece(from, to int) string { return t.s[from:to] }

// end is the place behind all bytes.
func (t text) end() int { return len(t.s) }

// has tells whether a sign is at a place.
func (t text) has(at int, sign byte) bool { return t.s[at] == sign }

// next is the place behind the byte at a place, and behind the one that is read with it, if there is any.
func (t text) next(at int) int {
	if t.has(at, mark) {
		return min(at+2, t.end())
	}
	return at + 1
}

// cutter cuts a text at each sign that is not read with a mark.
type cutter struct {
	text
	sign byte
}

// pieces are what stands between the signs, each with its number; there is always one more than signs.
func (c cutter) pieces() iter.Seq2[int, string] {
	return func(yield func(int, string) bool) {
		count, from := 0, 0
		for at := 0; at < c.end(); at = c.next(at) {
			if !c.has(at, c.sign) {
				continue
			}
			if !yield(count, c.piece(from, at)) {
				return
			}
			count, from = count+1, at+1
		}
		yield(count, c.piece(from, c.end()))
	}
}

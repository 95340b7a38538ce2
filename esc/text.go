package esc

import "iter"

// kind says where a value stands.
type kind int

const (
	inFilter kind = iota
	inName
)

const mark = '\\' // stands ahead of what is escaped

// text is what is printed or read.
type text struct{ s string }

// bytes are a text's, each with its place.
func (t text) bytes() iter.Seq2[int, byte] {
	return func(yield func(int, byte) bool) {
		for at := range len(t.s) {
			if !yield(at, t.s[at]) {
				return
			}
		}
	}
}

// has tells whether one of some signs is at a place.
func (t text) has(at int, signs ...byte) bool {
	if at >= len(t.s) {
		return false
	}
	for _, sign := range signs {
		if t.s[at] == sign {
			return true
		}
	}
	return false
}

// begins tells whether the byte at a place is the first one.
func (t text) begins(at int) bool { return at == 0 }

// ends tells whether the byte at a place is the last one.
func (t text) ends(at int) bool { return at == len(t.s)-1 }

// piece are the bytes between two places, as far as there are any.
func (t text) piece(from, to int) string {
	return t.s[min(from, len(t.s)):min(to, len(t.s))]
}

// reserved tells whether the byte at a place, as it is, would mean something else there.
func (t text) reserved(k kind, at int) bool {
	if k == inFilter {
		return t.has(at, mark, '*', '(', ')')
	}
	return t.has(at, mark, '"', '+', ',', ';', '<', '>') ||
		t.begins(at) && t.has(at, ' ', '#') ||
		t.ends(at) && t.has(at, ' ')
}

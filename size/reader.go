package size

import (
	"iter"

	"latiner/api"
)

// text is what is read from.
type text struct{ s string }

// has tells whether a byte stands at a place.
func (t text) has(at int) bool { return at >= 0 && at < len(t.s) }

// from are the bytes from a place on, up to the text's end: who reads them knows how many are wanted.
func (t text) from(at int) iter.Seq[byte] {
	return func(yield func(byte) bool) {
		for i := at; t.has(i); i++ {
			if !yield(t.s[i]) {
				return
			}
		}
	}
}

// reader reads the one length that is told at a place of its text.
type reader struct {
	text
	at     int    // the place of the first byte
	count  int    // how many bytes that one tells to stand behind it
	number uint32 // what was told so far: the most bytes that may follow just fit
}

// rule takes a step of reading, or says why it can't be taken.
type rule func(r *reader) error

// follow keeps to the rules in their order, since the first one that is broken names the error.
func (r *reader) follow(rules ...rule) error {
	for _, keep := range rules {
		if err := keep(r); err != nil {
			return fault{at: r.at, why: err}
		}
	}
	return nil
}

func takeFirst(r *reader) error {
	if !r.has(r.at) {
		return errShort
	}
	switch first := r.s[r.at]; {
	case first < long:
		r.number = uint32(first)
	case first == long:
		fallthrough // BER's length without an end is none of ours
	case first > long+most:
		return errForm
	default:
		r.count = int(first - long)
	}
	return nil
}

func takeRest(r *reader) error {
	left := r.count
told:
	for b := range r.from(r.at + 1) {
		if left == 0 {
			break told
		}
		r.number = r.number<<8 | uint32(b)
		left--
	}
	if left > 0 {
		return errShort
	}
	return nil
}

func checkNumber(r *reader) error {
	if r.number > api.MaxSize {
		return noLength{int(r.number)}
	}
	return nil
}

package utf

import "iter"

// text is what is looked at.
type text struct{ s string }

// signs are a text's, each with its place; where it is not right, a sign is told that does not stand there.
func (t text) signs() iter.Seq2[int, rune] {
	return func(yield func(int, rune) bool) {
		for at, sign := range t.s {
			if !yield(at, sign) {
				return
			}
		}
	}
}

// stands tells whether just a sign's bytes are at a place.
func (t text) stands(at int, sign rune) bool {
	var room [4]byte
	behind := at + width(sign)
	return behind <= len(t.s) && t.s[at:behind] == string(add(room[:0], sign))
}

// ends tells whether the byte at a place is the last one.
func (t text) ends(at int) bool { return at == len(t.s)-1 }

// rule says why a sign may not be at a place; nil, if it may.
type rule func(t text, at int, sign rune) error

// checker holds a text against rules.
type checker struct {
	text
	rules []rule
}

// check is the first fault of the text.
func (c checker) check() error {
	var err error
signs:
	for at, sign := range c.signs() {
		for _, keep := range c.rules {
			if why := keep(c.text, at, sign); why != nil {
				err = fault{at: at, why: why}
				break signs
			}
		}
	}
	return err
}

// follow holds a text against rules, sign by sign.
func follow(s string, rules ...rule) error {
	return checker{text: text{s}, rules: rules}.check()
}

func checkRight(s string) error { return follow(s, isTold) }

// isTold finds bad bytes: a range over them tells fffd, whose own bytes they are not.
func isTold(t text, at int, sign rune) error {
	if !t.stands(at, sign) {
		return errUtf
	}
	return nil
}

func isPlain(_ text, _ int, sign rune) error {
	if sign == 0 || sign == '\n' || sign == '\r' || sign >= one {
		return errSafe
	}
	return nil
}

func mayBegin(_ text, at int, sign rune) error {
	if at == 0 && (sign == ' ' || sign == ':' || sign == '<') {
		return errSafe
	}
	return nil
}

func mayEnd(t text, at int, sign rune) error {
	if t.ends(at) && sign == ' ' {
		return errSafe
	}
	return nil
}

// signsOf are a right text's signs.
func signsOf(s string) []int {
	var all []int
	for _, sign := range (text{s}).signs() {
		all = append(all, int(sign))
	}
	return all
}

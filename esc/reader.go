package esc

import (
	"latiner/api"
	"latiner/code"
	"latiner/utf"
)

const pair = 2 // how many digits tell a byte

// reader reads the value that a text tells.
type reader struct {
	text
	kind kind
}

func (r reader) read() (string, error) {
	if at := utf.Bad(r.s); at >= 0 {
		return "", fault{at: at, why: errText}
	}
	var all []byte
	lay := func(told string) { all = append(all, told...) }
	var err error
	done := 0 // all ahead of this place is read
steps:
	for at, b := range r.bytes() {
		if at < done {
			continue steps
		}
		done, err = r.step(at, b, lay)
		if err != nil {
			break steps
		}
	}
	if err != nil {
		return "", err
	}
	return string(all), nil
}

// step lays what the byte at a place tells, alone or with those behind it; it answers the place behind them.
func (r reader) step(at int, b byte, lay func(string)) (int, error) {
	switch {
	case b == mark:
		return r.escaped(at+1, lay)
	case b == 0, r.reserved(r.kind, at):
		return 0, fault{at: at, why: bare{b}}
	}
	lay(r.piece(at, at+1))
	return at + 1, nil
}

// escaped lays what is told behind a mark; a name allows all that a filter does, and signs beside.
func (r reader) escaped(at int, lay func(string)) (int, error) {
	switch r.kind {
	case inName:
		if r.has(at, mark, '"', '+', ',', ';', '<', '>', ' ', '#', '=') {
			lay(r.piece(at, at+1))
			return at + 1, nil
		}
		fallthrough
	case inFilter:
		told, e := code.Unhex(r.piece(at, at+pair))
		if e == api.OK && told != "" { // no digits at all are some text's, too
			lay(told)
			return at + pair, nil
		}
	}
	return 0, fault{at: at, why: errMark}
}

package dn

import (
	"strings"

	"latiner/api"
	"latiner/esc"
)

// read is the name that a text tells, if it is right.
func read(s string) ([]api.Rdn, error) {
	if s == "" { // a cutter would find one piece in it
		return nil, nil
	}
	return readAll(cutter{text: text{s}, sign: betweenRdns}, api.MaxRdns, readRdn)
}

func readRdn(s string) (api.Rdn, error) {
	l, err := readAll(cutter{text: text{s}, sign: betweenAvas}, api.MaxAvas, readAva)
	if err != nil {
		return api.Rdn{}, err
	}
	return api.Rdn{L: l}, nil
}

func readAva(s string) (api.Ava, error) {
	kind, told, found := strings.Cut(s, behindType)
	if !found {
		return api.Ava{}, errPiece
	}
	value, e := esc.ReadName(told)
	if e != api.OK {
		return api.Ava{}, noValue{e}
	}
	a := api.Ava{Type: strings.Clone(kind), Value: value} // a copy, so that a name does not keep its text
	if err := checkAva(a); err != nil {
		return api.Ava{}, err
	}
	return a, nil
}

// readAll reads each piece that is cut; it leaves off at the first that is wrong or one too many, however many stand behind.
func readAll[T any](c cutter, most int, each func(string) (T, error)) ([]T, error) {
	var all []T
	var wrong error
pieces:
	for i, piece := range c.pieces() {
		one, err := each(piece)
		switch {
		case err != nil:
			wrong = fault{part: i, why: err}
			break pieces
		case i == most:
			wrong = errCount
			break pieces
		}
		all = append(all, one)
	}
	if wrong != nil {
		return nil, wrong
	}
	return all, nil
}

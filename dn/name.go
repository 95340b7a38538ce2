package dn

import (
	"strings"

	"latiner/api"
	"latiner/esc"
)

// The signs between a name's parts, between those of one of them, and between a type and its value.
const (
	betweenRdns = ','
	betweenAvas = '+'
	behindType  = "="
)

// check is what keeps a name from being right.
func check(d []api.Rdn) error {
	if len(d) > api.MaxRdns {
		return errCount
	}
	for i, r := range d {
		if err := checkRdn(r); err != nil {
			return fault{part: i, why: err}
		}
	}
	return nil
}

func checkRdn(r api.Rdn) error {
	if len(r.L) == 0 || len(r.L) > api.MaxAvas {
		return errCount
	}
	for i, a := range r.L {
		if err := checkAva(a); err != nil {
			return fault{part: i, why: err}
		}
	}
	return nil
}

func checkAva(a api.Ava) error {
	if !IsType(a.Type) {
		return errType
	}
	if len(a.Value) > api.MaxValue {
		return errLong
	}
	return nil
}

// printed is the text of a name that is right.
func printed(d []api.Rdn) string {
	var all []string
	for _, r := range d {
		all = append(all, printedRdn(r))
	}
	return joined(betweenRdns, all...)
}

func printedRdn(r api.Rdn) string {
	var all []string
	for _, a := range r.L {
		all = append(all, a.Type+behindType+esc.Name(a.Value))
	}
	return joined(betweenAvas, all...)
}

// joined are pieces, with a sign between.
func joined(sign byte, pieces ...string) string {
	return strings.Join(pieces, string([]byte{sign}))
}

package esc

import "latiner/code"

const (
	first = 0x20 // of the bytes that may be printed as they are
	last  = 0x7e
)

// printed is a value, as it stands in a filter or in a name.
func printed(k kind, s string) string {
	var all []byte
	value := text{s}
	for at, b := range value.bytes() {
		plain := first <= b && b <= last
		switch {
		case plain && !value.reserved(k, at):
			all = append(all, b)
		case plain && k == inName:
			all = append(all, mark, b)
		default:
			all = append(all, mark)
			all = append(all, code.Hex(value.piece(at, at+1))...)
		}
	}
	return string(all)
}

package filt

import (
	"strings"

	"latiner/dn"
)

const aheadOfOption = ";"

func isTypeWithOptions(s string) bool {
	kind, options, found := strings.Cut(s, aheadOfOption)
	return dn.IsType(kind) && (!found || areOptions(options))
}

// areOptions tells whether all that stands between the signs, and behind the last one, are options.
func areOptions(s string) bool {
	for option := range strings.SplitSeq(s, aheadOfOption) {
		if !isOption(option) {
			return false
		}
	}
	return true
}

func isOption(s string) bool {
	for at := range len(s) {
		if !inOption(s[at]) {
			return false
		}
	}
	return s != ""
}

func inOption(b byte) bool {
	return 'A' <= b && b <= 'Z' || 'a' <= b && b <= 'z' || '0' <= b && b <= '9' || b == '-'
}

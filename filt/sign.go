package filt

import "latiner/api"

const (
	opens  = "("
	closes = ")"
	equals = "="
	star   = "*" // stands for whatever there is
)

// signs are the kinds', but for Subs, which has that of Equal and is told from it by what stands behind.
func signs() map[int]string {
	return map[int]string{
		api.And:     "&",
		api.Or:      "|",
		api.Not:     "!",
		api.Equal:   equals,
		api.Greater: ">=",
		api.Less:    "<=",
		api.Approx:  "~=",
		api.Present: equals + star,
	}
}

// kinds are those that the signs tell.
func kinds() map[string]int {
	told := map[string]int{}
	for kind, sign := range signs() {
		told[sign] = kind
	}
	return told
}

// isOfFilters tells whether filters of a kind have others in them.
func isOfFilters(kind int) bool {
	return kind == api.And || kind == api.Or || kind == api.Not
}

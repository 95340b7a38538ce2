package fber

import (
	"strings"

	"latiner/api"
)

// The tags that stand in filters' trees, beside the kinds'.
const (
	tagText    = 0x04
	tagPieces  = 0x30
	tagStart   = 0x80
	tagBetween = 0x81
	tagFinal   = 0x82
)

// tags are the kinds'.
func tags() map[int]int {
	return map[int]int{
		api.And:     0xa0,
		api.Or:      0xa1,
		api.Not:     0xa2,
		api.Equal:   0xa3,
		api.Subs:    0xa4,
		api.Greater: 0xa5,
		api.Less:    0xa6,
		api.Present: 0x87,
		api.Approx:  0xa8,
	}
}

// kinds are those that the tags tell.
func kinds() map[int]int {
	told := map[int]int{}
	for kind, tag := range tags() {
		told[tag] = kind
	}
	return told
}

// leaf has a copy of its text, so that a tree does not keep the filter that it was made of.
func leaf(tag int, text string) api.Node {
	return api.Node{Tag: tag, Data: strings.Clone(text)}
}

func inner(tag int, kids ...api.Node) api.Node { return api.Node{Tag: tag, Kids: kids} }

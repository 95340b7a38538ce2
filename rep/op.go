package rep

import (
	"iter"
	"slices"

	"latiner/api"
)

// response is an operation that is one: its tree's tag, and those of the trees of what comes beside, if it may have them.
type response struct {
	op    int
	tag   int
	oid   int
	value int
}

// responses are all of them.
func responses() iter.Seq[response] {
	return slices.Values([]response{
		{op: api.OpBindDone, tag: 0x61, oid: noTag, value: 0x87},
		{op: api.OpEntry, tag: 0x64},
		{op: api.OpDone, tag: 0x65},
		{op: api.OpModified, tag: 0x67},
		{op: api.OpAdded, tag: 0x69},
		{op: api.OpDeleted, tag: 0x6b},
		{op: api.OpMoved, tag: 0x6d},
		{op: api.OpCompared, tag: 0x6f},
		{op: api.OpReference, tag: 0x73},
		{op: api.OpExtendedDone, tag: 0x78, oid: 0x8a, value: 0x8b},
		{op: api.OpIntermediate, tag: 0x79, oid: 0x80, value: 0x81},
	})
}

// answers are the operations that answer requests' last.
func answers() map[int]int {
	return map[int]int{
		api.OpBind:     api.OpBindDone,
		api.OpSearch:   api.OpDone,
		api.OpModify:   api.OpModified,
		api.OpAdd:      api.OpAdded,
		api.OpDelete:   api.OpDeleted,
		api.OpMove:     api.OpMoved,
		api.OpCompare:  api.OpCompared,
		api.OpExtended: api.OpExtendedDone,
	}
}

// withOp is the response that an operation is.
func withOp(op int) (response, error) {
	return find(func(one response) bool { return one.op == op }, noOp{op})
}

// withTag is the response whose trees have a tag.
func withTag(tag int) (response, error) {
	return find(func(one response) bool { return one.tag == tag }, noTree{tag})
}

// find is the response of which something holds; if there is none, that is wrong.
func find(holds func(response) bool, missing error) (response, error) {
	var found response
	why := missing
operations:
	for one := range responses() {
		if holds(one) {
			found, why = one, nil
			break operations
		}
	}
	return found, why
}

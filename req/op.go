package req

import (
	"iter"
	"slices"

	"latiner/api"
)

// request is an operation that is one: its tree's tag, and the fields of a message that it uses.
type request struct {
	op   int
	tag  int
	uses fields
}

// requests are all of them.
func requests() iter.Seq[request] {
	return slices.Values([]request{
		{api.OpBind, 0x60, fieldDn | fieldBind},
		{api.OpUnbind, 0x42, 0},
		{api.OpSearch, 0x63, fieldDn | fieldSearch},
		{api.OpModify, 0x66, fieldDn | fieldChanges},
		{api.OpAdd, 0x68, fieldDn | fieldAttrs},
		{api.OpDelete, 0x4a, fieldDn},
		{api.OpMove, 0x6c, fieldDn | fieldMove},
		{api.OpCompare, 0x6e, fieldDn | fieldAttrs},
		{api.OpAbandon, 0x50, fieldTarget},
		{api.OpExtended, 0x77, fieldExt},
	})
}

// withOp is the request that an operation is.
func withOp(op int) (request, error) {
	return find(func(one request) bool { return one.op == op }, noOp{op})
}

// withTag is the request whose trees have a tag.
func withTag(tag int) (request, error) {
	return find(func(one request) bool { return one.tag == tag }, noTree{tag})
}

// find is the request of which something holds; if there is none, that is wrong.
func find(holds func(request) bool, none error) (request, error) {
	var found request
	why := none
operations:
	for one := range requests() {
		if holds(one) {
			found, why = one, nil
			break operations
		}
	}
	return found, why
}

// hasTrees tells whether a request's tree has others in it, and no data.
func (r request) hasTrees() bool { return r.tag&api.Inner != 0 }

package req

import (
	"latiner/api"
	"latiner/filt"
)

// fields are some of a message's, a bit each.
type fields int

const (
	fieldDn fields = 1 << iota
	fieldAttrs
	fieldChanges
	fieldSearch
	fieldMove
	fieldBind
	fieldExt
	fieldTarget
	fieldOther // one that no request uses
)

// filled are the fields, but for the operation, that are not empty.
func filled(m api.Msg) fields {
	return when(m.Dn != "", fieldDn) |
		when(len(m.Attrs) > 0, fieldAttrs) |
		when(len(m.Changes) > 0, fieldChanges) |
		when(!isNoSearch(m.Search), fieldSearch) |
		when(m.Move != api.Move{}, fieldMove) |
		when(m.Bind != api.Bind{}, fieldBind) |
		when(m.Ext != api.Ext{}, fieldExt) |
		when(m.Target != 0, fieldTarget) |
		when(m.Id != 0 || !isNoResult(m.Result), fieldOther) |
		when(len(m.Refs) > 0 || len(m.Controls) > 0, fieldOther)
}

// when is a field, if something is so, else none.
func when(so bool, one fields) fields {
	if so {
		return one
	}
	return 0
}

func isNoSearch(s api.Search) bool {
	return s.Scope == 0 && s.Deref == 0 && s.Size == 0 && s.Time == 0 && !s.TypesOnly &&
		filt.Same(s.Filter, api.Filter{}) && len(s.Names) == 0
}

func isNoResult(r api.Result) bool {
	return r.Code == 0 && r.Dn == "" && r.Text == "" && len(r.Refs) == 0
}

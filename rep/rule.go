package rep

import (
	"slices"

	"latiner/api"
	"latiner/part"
	"latiner/utf"
)

// rule is what a response must keep, and what is wrong if it does not.
type rule struct {
	kept bool
	why  error
}

// broken is what is wrong by the first rule that is not kept.
func broken(rules ...rule) error {
	for _, r := range rules {
		if !r.kept {
			return r.why
		}
	}
	return nil
}

// check says why a message is no right response of its operation. Fields that are not used are empty, and as such right, but for Refs.
func (m maker) check() error {
	return broken(
		rule{isEmpty(m.unused()), errField},
		rule{isResult(m.Result), errResult},
		rule{isOidOrNone(m.Ext.Oid), errOid},
		rule{m.oid != noTag || m.Ext.Oid == "", errOid},
		rule{len(m.Ext.Value) <= api.MaxData, errLong},
		rule{m.Ext.Has || m.Ext.Value == "", errValue},
		rule{part.IsDn(m.Dn), errDn},
		rule{len(m.Attrs) <= api.MaxAttrs && !slices.ContainsFunc(m.Attrs, isNoAttr), errAttrs},
		rule{len(m.Refs) <= api.MaxRefs && !slices.ContainsFunc(m.Refs, isNoRef), errRefs},
		rule{m.op != api.OpReference || len(m.Refs) > 0, errRefs},
	)
}

// unused is the message without the fields that its operation uses.
func (m maker) unused() api.Msg {
	rest := m.Msg
	switch m.op {
	case api.OpBindDone, api.OpExtendedDone:
		rest.Result = api.Result{}
		fallthrough // but for the result they are as the one that has none
	case api.OpIntermediate:
		rest.Ext = api.Ext{}
	case api.OpEntry:
		rest.Dn, rest.Attrs = "", nil
	case api.OpReference:
		rest.Refs = nil
	default:
		rest.Result = api.Result{}
	}
	return rest
}

// isEmpty tells whether all fields of a message are, but for its operation.
func isEmpty(m api.Msg) bool {
	lists := len(m.Attrs) + len(m.Changes) + len(m.Refs) + len(m.Controls)
	return m.Id == 0 && m.Dn == "" && m.Target == 0 && lists == 0 &&
		m.Move == api.Move{} && m.Bind == api.Bind{} && m.Ext == api.Ext{} &&
		isNoSearch(m.Search) && isNoResult(m.Result)
}

func isNoSearch(s api.Search) bool {
	return s.Scope == 0 && s.Deref == 0 && s.Size == 0 && s.Time == 0 && !s.TypesOnly &&
		isNoFilter(s.Filter) && len(s.Names) == 0
}

func isNoFilter(f api.Filter) bool {
	return f.Kind == 0 && f.Name == "" && f.Value == "" && len(f.Any) == 0 && f.Final == "" && len(f.L) == 0
}

func isNoResult(r api.Result) bool {
	return r.Code == 0 && r.Dn == "" && r.Text == "" && len(r.Refs) == 0
}

func isResult(r api.Result) bool {
	_, e := part.Result(r)
	return e == api.OK
}

func isOidOrNone(s string) bool { return s == "" || part.IsOid(s) }

func isNoAttr(a api.Attr) bool {
	_, e := part.Attr(a, leastValues)
	return e != api.OK
}

func isNoRef(s string) bool { return s == "" || len(s) > api.MaxText || !utf.Right(s) }

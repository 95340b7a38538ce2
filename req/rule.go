package req

import (
	"slices"

	"latiner/api"
	"latiner/dn"
	"latiner/filt"
	"latiner/part"
)

const (
	maxScope = 2
	maxDeref = 3
	allNames = "*" // stands for the names of all attributes
)

// rule is what a request must keep, and what is wrong if it does not.
type rule struct {
	kept bool
	why  error
}

// broken is what is wrong by the first rule that is not kept.
func broken(rules ...rule) error {
	for _, r := range rules {
		if !r.kept {
			return r.why
		}
	}
	return nil
}

// asks are what operations ask for beside a name.
func asks() map[int]func(maker) error {
	return map[int]func(maker) error{
		api.OpBind:     maker.checkBind,
		api.OpUnbind:   maker.checkNoMore,
		api.OpSearch:   maker.checkSearch,
		api.OpModify:   maker.checkChanges,
		api.OpAdd:      maker.checkAttrs,
		api.OpDelete:   maker.checkNoMore,
		api.OpMove:     maker.checkMove,
		api.OpCompare:  maker.checkCompare,
		api.OpAbandon:  maker.checkTarget,
		api.OpExtended: maker.checkExt,
	}
}

// check says why a message is no right request of its operation. A Dn that is not used is empty, which is a name's text too.
func (m maker) check() error {
	err := broken(
		rule{filled(m.Msg)&^m.uses == 0, errField},
		rule{part.IsDn(m.Dn), errDn},
	)
	if err == nil {
		err = asks()[m.op](m)
	}
	return err
}

func (m maker) checkNoMore() error { return nil }

func (m maker) checkBind() error {
	b := m.Bind
	if b.Simple {
		return broken(
			rule{len(b.Auth) <= api.MaxData, errLong},
			rule{b.Mech == "" && !b.Has, errMech},
		)
	}
	return broken(
		rule{isMech(b.Mech), errMech},
		rule{len(b.Auth) <= api.MaxData, errLong},
		rule{b.Has || b.Auth == "", errValue},
	)
}

func isMech(s string) bool {
	for at := range len(s) {
		if !inMech(s[at]) {
			return false
		}
	}
	return s != "" && len(s) <= api.MaxType
}

func inMech(b byte) bool { return 'A' <= b && b <= 'Z' || '0' <= b && b <= '9' || b == '-' || b == '_' }

func (m maker) checkSearch() error {
	s := m.Search
	return broken(
		rule{isUpTo(s.Scope, maxScope) && isUpTo(s.Deref, maxDeref), errRange},
		rule{isUpTo(s.Size, api.MaxInt) && isUpTo(s.Time, api.MaxInt), errRange},
		rule{filt.Right(s.Filter), errFilter},
		rule{len(s.Names) <= api.MaxAttrs && !slices.ContainsFunc(s.Names, isNoName), errNames},
	)
}

func isUpTo(n, most int) bool { return n >= 0 && n <= most }

func isNoName(s string) bool { return s != allNames && !filt.IsName(s) }

func (m maker) checkChanges() error {
	count := len(m.Changes)
	few := count > 0 && count <= api.MaxChanges
	return broken(rule{few && !slices.ContainsFunc(m.Changes, isNoChange), errChanges})
}

func isNoChange(c api.Change) bool {
	_, e := part.Change(c)
	return e != api.OK
}

func (m maker) checkAttrs() error {
	count := len(m.Attrs)
	few := count > 0 && count <= api.MaxAttrs
	return broken(rule{few && !slices.ContainsFunc(m.Attrs, isNoAttr), errAttrs})
}

// isNoAttr tells whether an attribute is not right, of at least one value: an entry has none without.
func isNoAttr(a api.Attr) bool {
	_, e := part.Attr(a, 1)
	return e != api.OK
}

// checkCompare says why there is more than one thing to compare, or none.
func (m maker) checkCompare() error {
	if err := m.checkAttrs(); err != nil {
		return err
	}
	return broken(rule{len(m.Attrs) == 1 && len(m.Attrs[0].Values) == 1, errAttrs})
}

func (m maker) checkMove() error {
	return broken(
		rule{isRdn(m.Move.Rdn), errRdn},
		rule{m.Move.Has || m.Move.Superior == "", errValue},
		rule{part.IsDn(m.Move.Superior), errDn},
	)
}

func isRdn(s string) bool {
	if !part.IsDn(s) {
		return false
	}
	d, _ := dn.Parse(s)
	return len(d) == 1
}

func (m maker) checkTarget() error { return broken(rule{isUpTo(m.Target, api.MaxInt), errRange}) }

func (m maker) checkExt() error {
	return broken(
		rule{part.IsOid(m.Ext.Oid), errOid},
		rule{len(m.Ext.Value) <= api.MaxData, errLong},
		rule{m.Ext.Has || m.Ext.Value == "", errValue},
	)
}

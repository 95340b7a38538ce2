package req

import (
	"latiner/api"
	"latiner/prim"
)

// reader puts what trees tell into its message.
type reader struct {
	api.Msg
	request
}

// read is the request whose tree one is. What its trees tell is held against the rules when all of them are taken.
func read(n api.Node) (api.Msg, error) {
	one, err := withTag(n.Tag)
	if err != nil {
		return api.Msg{}, err
	}
	r := reader{Msg: api.Msg{Op: one.op}, request: one}
	t := taker{left: []api.Node{n}}
	r.take(&t)
	if err := t.end(); err != nil {
		return api.Msg{}, fault{op: one.op, why: err}
	}
	_, err = makerOf(r.Msg)
	return r.Msg, err
}

func (r *reader) take(t *taker) {
	if !r.hasTrees() {
		r.data(t, t.data(r.tag))
		return
	}
	t.inside(r.tag, func(in *taker) {
		r.head(in)
		readers()[r.op](r, in)
	})
}

// data is what a request without trees tells.
func (r *reader) data(t *taker, s string) {
	switch r.op {
	case api.OpDelete:
		r.Dn = s
	case api.OpAbandon:
		n, e := prim.ReadInt(s)
		t.hold(e)
		r.Target = n
	default:
		if s != "" {
			t.refuse(errTree)
		}
	}
}

// head takes the trees that requests of an entry begin with.
func (r *reader) head(t *taker) {
	switch r.op {
	case api.OpBind:
		if t.number(tagNumber) != version {
			t.refuse(errVersion)
		}
		fallthrough // behind that it goes on as all others of an entry
	case api.OpSearch, api.OpModify, api.OpAdd, api.OpMove, api.OpCompare:
		r.Dn = t.text()
	}
}

// readers take the trees behind the head.
func readers() map[int]func(*reader, *taker) {
	return map[int]func(*reader, *taker){
		api.OpBind:     (*reader).bind,
		api.OpSearch:   (*reader).search,
		api.OpModify:   (*reader).modify,
		api.OpAdd:      (*reader).add,
		api.OpMove:     (*reader).move,
		api.OpCompare:  (*reader).compare,
		api.OpExtended: (*reader).extended,
	}
}

func (r *reader) bind(t *taker) {
	if t.comes(tagSimple) {
		r.Bind = api.Bind{Simple: true, Auth: t.data(tagSimple)}
		return
	}
	t.inside(tagMech, func(in *taker) {
		r.Bind.Mech = in.text()
		if in.comes(tagText) {
			r.Bind.Auth, r.Bind.Has = in.text(), true
		}
	})
}

func (r *reader) search(t *taker) {
	r.Search.Scope = t.number(tagChoice)
	r.Search.Deref = t.number(tagChoice)
	r.Search.Size = t.number(tagNumber)
	r.Search.Time = t.number(tagNumber)
	r.Search.TypesOnly = t.yes()
	r.Search.Filter = t.filter()
	r.Search.Names = all(t, api.MaxAttrs, (*taker).text)
}

func (r *reader) modify(t *taker) { r.Changes = all(t, api.MaxChanges, (*taker).change) }

func (r *reader) add(t *taker) { r.Attrs = all(t, api.MaxAttrs, (*taker).attr) }

func (r *reader) move(t *taker) {
	r.Move.Rdn = t.text()
	r.Move.DeleteOld = t.yes()
	if t.comes(tagSuperior) {
		r.Move.Superior, r.Move.Has = t.data(tagSuperior), true
	}
}

func (r *reader) compare(t *taker) {
	t.inside(tagList, func(in *taker) {
		name := in.text()
		r.Attrs = []api.Attr{{Name: name, Values: []string{in.text()}}}
	})
}

func (r *reader) extended(t *taker) {
	r.Ext.Oid = t.data(tagOid)
	if t.comes(tagValue) {
		r.Ext.Value, r.Ext.Has = t.data(tagValue), true
	}
}

package req

import (
	"strings"

	"latiner/api"
	"latiner/fber"
	"latiner/part"
	"latiner/prim"
)

// version is the one of LDAP that is spoken.
const version = 3

// leaf has a copy of its text, so that a tree does not keep the message that it was made of.
func leaf(tag int, text string) api.Node {
	return api.Node{Tag: tag, Data: strings.Clone(text)}
}

func inner(tag int, kids ...api.Node) api.Node { return api.Node{Tag: tag, Kids: kids} }

// number has the bytes of a number that rules have held small.
func number(tag, n int) api.Node {
	s, _ := prim.Int(n)
	return leaf(tag, s)
}

// list are trees of what there is, in one.
func list[T any](l []T, tree func(T) api.Node) api.Node {
	var kids []api.Node
	for _, one := range l {
		kids = append(kids, tree(one))
	}
	return inner(tagList, kids...)
}

func textTree(s string) api.Node { return leaf(tagText, s) }

// changeTree is that of a change that rules have held right.
func changeTree(c api.Change) api.Node {
	n, _ := part.Change(c)
	return n
}

// attrTree is that of an attribute that rules have held right.
func attrTree(a api.Attr) api.Node {
	n, _ := part.Attr(a, 1)
	return n
}

// maker makes the tree of a message that is a right request.
type maker struct {
	api.Msg
	request
}

// makerOf is a message's maker, or says why the message is no right request.
func makerOf(m api.Msg) (maker, error) {
	one, err := withOp(m.Op)
	if err != nil {
		return maker{}, err
	}
	made := maker{Msg: m, request: one}
	if err := made.check(); err != nil {
		return maker{}, fault{op: m.Op, why: err}
	}
	return made, nil
}

func (m maker) tree() api.Node {
	if !m.hasTrees() {
		return leaf(m.tag, m.data())
	}
	return inner(m.tag, append(m.head(), makers()[m.op](m)...)...)
}

// data is that of a request without trees.
func (m maker) data() string {
	switch m.op {
	case api.OpDelete:
		return m.Dn
	case api.OpAbandon:
		s, _ := prim.Int(m.Target)
		return s
	}
	return ""
}

// head are the trees that requests of an entry begin with.
func (m maker) head() []api.Node {
	var l []api.Node
	switch m.op {
	case api.OpBind:
		l = append(l, number(tagNumber, version))
		fallthrough // behind that it goes on as all others of an entry
	case api.OpSearch, api.OpModify, api.OpAdd, api.OpMove, api.OpCompare:
		l = append(l, textTree(m.Dn))
	}
	return l
}

// makers make the trees behind the head.
func makers() map[int]func(maker) []api.Node {
	return map[int]func(maker) []api.Node{
		api.OpBind:     maker.bind,
		api.OpSearch:   maker.search,
		api.OpModify:   maker.modify,
		api.OpAdd:      maker.add,
		api.OpMove:     maker.move,
		api.OpCompare:  maker.compare,
		api.OpExtended: maker.extended,
	}
}

func (m maker) bind() []api.Node {
	if m.Bind.Simple {
		return []api.Node{leaf(tagSimple, m.Bind.Auth)}
	}
	l := []api.Node{textTree(m.Bind.Mech)}
	if m.Bind.Has {
		l = append(l, textTree(m.Bind.Auth))
	}
	return []api.Node{inner(tagMech, l...)}
}

func (m maker) search() []api.Node {
	filter, _ := fber.Tree(m.Search.Filter) // rules have held it right
	return []api.Node{
		number(tagChoice, m.Search.Scope),
		number(tagChoice, m.Search.Deref),
		number(tagNumber, m.Search.Size),
		number(tagNumber, m.Search.Time),
		leaf(tagBool, prim.Bool(m.Search.TypesOnly)),
		filter,
		list(m.Search.Names, textTree),
	}
}

func (m maker) modify() []api.Node { return []api.Node{list(m.Changes, changeTree)} }

func (m maker) add() []api.Node { return []api.Node{list(m.Attrs, attrTree)} }

func (m maker) move() []api.Node {
	l := []api.Node{textTree(m.Move.Rdn), leaf(tagBool, prim.Bool(m.Move.DeleteOld))}
	if m.Move.Has {
		l = append(l, leaf(tagSuperior, m.Move.Superior))
	}
	return l
}

func (m maker) compare() []api.Node {
	a := m.Attrs[0]
	return []api.Node{inner(tagList, textTree(a.Name), textTree(a.Values[0]))}
}

func (m maker) extended() []api.Node {
	l := []api.Node{leaf(tagOid, m.Ext.Oid)}
	if m.Ext.Has {
		l = append(l, leaf(tagValue, m.Ext.Value))
	}
	return l
}

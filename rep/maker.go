package rep

import (
	"strings"

	"latiner/api"
	"latiner/part"
)

// leastValues are how many an entry's attributes have: who asks for names alone is told no values.
const leastValues = 0

// leaf has a copy of its text, so that a tree does not keep the message that it was made of.
func leaf(tag int, text string) api.Node {
	return api.Node{Tag: tag, Data: strings.Clone(text)}
}

func inner(tag int, kids ...api.Node) api.Node { return api.Node{Tag: tag, Kids: kids} }

// maker makes the tree of a message that is a right response.
type maker struct {
	api.Msg
	response
}

// makerOf is a message's maker, or says why the message is no right response.
func makerOf(m api.Msg) (maker, error) {
	one, err := withOp(m.Op)
	if err != nil {
		return maker{}, err
	}
	made := maker{Msg: m, response: one}
	if err := made.check(); err != nil {
		return maker{}, fault{op: m.Op, why: err}
	}
	return made, nil
}

func (m maker) tree() api.Node { return inner(m.tag, m.kids()...) }

// kids are the trees in a response's.
func (m maker) kids() []api.Node {
	var l []api.Node
	switch m.op {
	case api.OpBindDone, api.OpExtendedDone:
		l = m.result()
		fallthrough // behind the result they go on as the one that has none
	case api.OpIntermediate:
		l = append(l, m.beside()...)
	case api.OpEntry:
		l = append(l, leaf(tagText, m.Dn), inner(tagList, m.attrs()...))
	case api.OpReference:
		l = m.refs()
	default:
		l = m.result()
	}
	return l
}

// result are the trees of a result that rules have held right.
func (m maker) result() []api.Node {
	l, _ := part.Result(m.Result)
	return l
}

func (m maker) beside() []api.Node {
	var l []api.Node
	if m.Ext.Oid != "" {
		l = append(l, leaf(m.oid, m.Ext.Oid))
	}
	if m.Ext.Has {
		l = append(l, leaf(m.value, m.Ext.Value))
	}
	return l
}

// attrs are the trees of attributes that rules have held right.
func (m maker) attrs() []api.Node {
	var l []api.Node
	for _, a := range m.Attrs {
		n, _ := part.Attr(a, leastValues)
		l = append(l, n)
	}
	return l
}

func (m maker) refs() []api.Node {
	var l []api.Node
	for _, s := range m.Refs {
		l = append(l, leaf(tagText, s))
	}
	return l
}

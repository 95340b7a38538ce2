package rep

import (
	"strings"

	"latiner/api"
	"latiner/part"
	"latiner/tlv"
)

// resultTrees are how many a result has ahead of its references.
const resultTrees = 3

// trees are those that are still to be taken.
type trees struct{ left []api.Node }

// stands tells whether there is one at a place, with a tag.
func (t *trees) stands(at, tag int) bool { return at < len(t.left) && t.left[at].Tag == tag }

// take are the first ones, so many at most.
func (t *trees) take(most int) []api.Node {
	count := min(most, len(t.left))
	l := t.left[:count]
	t.left = t.left[count:]
	return l
}

// next is the first one; an empty one, if there is none.
func (t *trees) next() api.Node {
	if len(t.left) == 0 {
		return api.Node{}
	}
	return t.take(1)[0]
}

// taker takes what a response's trees tell, as if they were right; what layer 10 refuses of them stays in it.
type taker struct {
	trees
	response
	why error
}

// read is the response whose tree one is. What is not told of a tree, or told as something else, is found where the response's own tree is another.
func read(n api.Node) (api.Msg, error) {
	one, err := withTag(n.Tag)
	if err != nil {
		return api.Msg{}, err
	}
	t := taker{trees: trees{n.Kids}, response: one}
	m := t.msg()
	if t.why != nil {
		return api.Msg{}, fault{op: one.op, why: t.why}
	}
	made, err := makerOf(m)
	if err == nil && !tlv.Same(made.tree(), n) {
		err = fault{op: one.op, why: errTree}
	}
	return m, err
}

func (t *taker) msg() api.Msg {
	m := api.Msg{Op: t.op}
	switch t.op {
	case api.OpBindDone, api.OpExtendedDone:
		m.Result = t.result()
		fallthrough // behind the result they go on as the one that has none
	case api.OpIntermediate:
		m.Ext = t.beside()
	case api.OpEntry:
		m.Dn = dataOf(t.next())
		m.Attrs = t.attrs()
	case api.OpReference:
		m.Refs = t.refs()
	default:
		m.Result = t.result()
	}
	return m
}

// hold takes down what layer 10 said, if that is an error.
func (t *taker) hold(e api.Errno) {
	if e != api.OK {
		t.why = refused{e}
	}
}

// dataOf is a copy, so that a message does not keep its trees.
func dataOf(n api.Node) string { return strings.Clone(n.Data) }

// result is what the first trees tell, which are as many as a result may have.
func (t *taker) result() api.Result {
	count := resultTrees
	if t.stands(resultTrees, tagRefs) {
		count++
	}
	r, e := part.ReadResult(t.take(count))
	t.hold(e)
	return r
}

func (t *taker) beside() api.Ext {
	var x api.Ext
	if t.stands(0, t.oid) {
		x.Oid = dataOf(t.next())
	}
	if t.stands(0, t.value) {
		x.Value, x.Has = dataOf(t.next()), true
	}
	return x
}

func (t *taker) attrs() []api.Attr {
	in := trees{t.next().Kids}
	var l []api.Attr
	for _, n := range in.take(api.MaxAttrs) {
		a, e := part.ReadAttr(n, leastValues)
		t.hold(e)
		l = append(l, a)
	}
	return l
}

func (t *taker) refs() []string {
	var l []string
	for _, n := range t.take(api.MaxRefs) {
		l = append(l, dataOf(n))
	}
	return l
}

package req

import (
	"strings"

	"latiner/api"
	"latiner/fber"
	"latiner/part"
	"latiner/prim"
)

// taker takes trees, one behind the other; what is wrong first stays in it, and from there on it takes nothing.
type taker struct {
	left []api.Node
	why  error
}

// refuse takes down what is wrong, unless something is already.
func (t *taker) refuse(why error) {
	if t.why == nil {
		t.why = why
	}
}

// hold takes down what a layer below said, if that is an error.
func (t *taker) hold(e api.Errno) {
	if e != api.OK {
		t.refuse(refused{e})
	}
}

// more tells whether there is a tree to be taken.
func (t *taker) more() bool { return t.why == nil && len(t.left) > 0 }

// comes tells whether there is one, with a tag.
func (t *taker) comes(tag int) bool { return t.more() && t.left[0].Tag == tag }

// tree is the one that is taken, whatever tag it has.
func (t *taker) tree() api.Node {
	if !t.more() {
		t.refuse(errTree)
		return api.Node{}
	}
	n := t.left[0]
	t.left = t.left[1:]
	return n
}

// next is the tree that is taken, which must have a tag.
func (t *taker) next(tag int) api.Node {
	if !t.comes(tag) {
		t.refuse(noTree{tag})
	}
	return t.tree()
}

// data is that of the tree that is taken, a copy, so that a message does not keep its trees.
func (t *taker) data(tag int) string {
	n := t.next(tag)
	if len(n.Kids) > 0 {
		t.refuse(errTree)
	}
	return strings.Clone(n.Data)
}

func (t *taker) text() string { return t.data(tagText) }

// number is what a tree's data tells.
func (t *taker) number(tag int) int {
	n, e := prim.ReadInt(t.data(tag))
	t.hold(e)
	return n
}

// yes is whether a tree's data tells that something is so.
func (t *taker) yes() bool {
	so, e := prim.ReadBool(t.data(tagBool))
	t.hold(e)
	return so
}

func (t *taker) filter() api.Filter {
	f, e := fber.Read(t.tree())
	t.hold(e)
	return f
}

func (t *taker) change() api.Change {
	c, e := part.ReadChange(t.tree())
	t.hold(e)
	return c
}

func (t *taker) attr() api.Attr {
	a, e := part.ReadAttr(t.tree(), 1)
	t.hold(e)
	return a
}

// inside takes the trees in the one that is taken, all of them.
func (t *taker) inside(tag int, take func(*taker)) {
	n := t.next(tag)
	if n.Data != "" {
		t.refuse(errTree)
	}
	in := taker{left: n.Kids, why: t.why}
	take(&in)
	t.refuse(in.end())
}

// end is what is wrong, also if something is not taken.
func (t *taker) end() error {
	if t.more() {
		t.refuse(errTree)
	}
	return t.why
}

// all are what the trees in the one that is taken tell, so many at most, however many there are.
func all[T any](t *taker, most int, take func(*taker) T) []T {
	var l []T
	t.inside(tagList, func(in *taker) {
		for in.more() && len(l) < most {
			l = append(l, take(in))
		}
	})
	return l
}

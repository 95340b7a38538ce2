package part

import (
	"iter"
	"strings"

	"latiner/api"
	"latiner/prim"
)

// trees are what a part is read from.
type trees struct{ l []api.Node }

// has tells whether there is a tree at a place.
func (t trees) has(at int) bool { return at < len(t.l) }

// stands tells whether there is one, with a tag.
func (t trees) stands(at, tag int) bool { return t.has(at) && t.l[at].Tag == tag }

// taker takes trees, one behind the other, for a part; what is wrong first stays in it, and from there on it takes nothing.
type taker struct {
	trees
	part string
	at   int
	why  error
}

// inside takes the trees in one, which must have a tag, and nothing else in it.
func inside(part string, tag int, n api.Node) taker {
	t := taker{trees: trees{n.Kids}, part: part}
	switch {
	case n.Tag != tag:
		t.refuse(noTree{tag})
	case n.Data != "":
		t.refuse(errTree)
	}
	return t
}

// refuse takes down what is wrong, unless something is already.
func (t *taker) refuse(why error) {
	if t.why == nil {
		t.why = fault{part: t.part, why: why}
	}
}

// next is the tree that is taken, which must have a tag.
func (t *taker) next(tag int) api.Node {
	if !t.stands(t.at, tag) {
		t.refuse(noTree{tag})
	}
	if t.why != nil {
		return api.Node{}
	}
	t.at++
	return t.l[t.at-1]
}

// comes tells whether the tree that is taken next has a tag.
func (t *taker) comes(tag int) bool { return t.why == nil && t.stands(t.at, tag) }

// data is that of the tree that is taken, a copy, so that a part does not keep its trees.
func (t *taker) data(tag int) string {
	n := t.next(tag)
	if len(n.Kids) > 0 {
		t.refuse(errTree)
	}
	return strings.Clone(n.Data)
}

// number is what a tree's data tells.
func (t *taker) number() int {
	n, e := prim.ReadInt(t.data(tagNumber))
	if e != api.OK {
		t.refuse(noBytes{e})
	}
	return n
}

// yes is what a tree tells that stands just where something is so.
func (t *taker) yes() bool {
	so, e := prim.ReadBool(t.data(tagBool))
	switch {
	case e != api.OK:
		t.refuse(noBytes{e})
	case !so:
		t.refuse(errFalse)
	}
	return so
}

// texts are those in a tree, at least so many, and at most.
func (t *taker) texts(tag, least, most int) []string {
	in := inside(t.part, tag, t.next(tag))
	var all []string
texts:
	for s, err := range in.each() {
		switch {
		case err != nil:
			break texts
		case len(all) == most: // however many stand behind
			in.refuse(errCount)
			break texts
		}
		all = append(all, s)
	}
	if len(all) < least {
		in.refuse(errCount)
	}
	if t.why == nil {
		t.why = in.why
	}
	return all
}

// each are the texts that are still to be taken; an error is the last that is told.
func (t *taker) each() iter.Seq2[string, error] {
	return func(yield func(string, error) bool) {
		for t.has(t.at) {
			s := t.data(tagText)
			if !yield(s, t.why) || t.why != nil {
				return
			}
		}
	}
}

// end is what is wrong, also if something is not taken.
func (t *taker) end() error {
	if t.has(t.at) {
		t.refuse(errTree)
	}
	return t.why
}

package fber

import (
	"iter"

	"latiner/api"
	"latiner/filt"
)

// maker makes the tree of a filter that is right.
type maker struct {
	api.Filter
	tags map[int]int
}

// build is a filter's tree, if the filter is right.
func build(f api.Filter) (api.Node, error) {
	if !filt.Right(f) {
		return api.Node{}, fault{kind: f.Kind, why: errRight}
	}
	return maker{Filter: f, tags: tags()}.tree(), nil
}

func (m maker) tree() api.Node {
	tag := m.tags[m.Kind]
	var kids []api.Node
	switch m.Kind {
	case api.Present:
		return leaf(tag, m.Name)
	case api.And, api.Or, api.Not:
		for one := range m.inside() {
			kids = append(kids, one.tree())
		}
		return inner(tag, kids...)
	case api.Subs:
		for tag, text := range m.pieces() {
			kids = append(kids, leaf(tag, text))
		}
		return inner(tag, leaf(tagText, m.Name), inner(tagPieces, kids...))
	}
	return inner(tag, leaf(tagText, m.Name), leaf(tagText, m.Value))
}

// inside are the makers of the filters in the maker's own.
func (m maker) inside() iter.Seq[maker] {
	return func(yield func(maker) bool) {
		for _, one := range m.L {
			if !yield(maker{Filter: one, tags: m.tags}) {
				return
			}
		}
	}
}

// pieces are what Subs asks for, each with its tag; an end that is empty asks for nothing.
func (m maker) pieces() iter.Seq2[int, string] {
	return func(yield func(int, string) bool) {
		if m.Value != "" && !yield(tagStart, m.Value) {
			return
		}
		for _, text := range m.Any {
			if !yield(tagBetween, text) {
				return
			}
		}
		if m.Final != "" {
			yield(tagFinal, m.Final)
		}
	}
}

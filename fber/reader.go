package fber

import (
	"iter"
	"strings"

	"latiner/api"
	"latiner/tlv"
)

const (
	pair       = 2              // trees in a condition's, but for Present: the name's, and what is asked of it
	mostPieces = api.MaxAny + 2 // those between, and the ends
)

// reader reads filters from their trees.
type reader struct{ kinds map[int]int }

// read is the filter whose tree one is.
func read(n api.Node) (api.Filter, error) { return reader{kinds: kinds()}.filter(n, 1) }

// filter is the one whose tree stands so deep.
func (r reader) filter(n api.Node, deep int) (api.Filter, error) {
	kind, found := r.kinds[n.Tag]
	if !found {
		return api.Filter{}, noKind{n.Tag}
	}
	f, err := r.body(kind, n, deep)
	if err != nil {
		return api.Filter{}, fault{kind: kind, why: err}
	}
	return f, nil
}

// body is a filter of a kind that its tag told.
func (r reader) body(kind int, n api.Node, deep int) (api.Filter, error) {
	if deep > api.MaxDepth {
		return api.Filter{}, errDeep
	}
	most := api.MaxIn
	switch kind {
	case api.Not:
		most = 1
		fallthrough
	case api.And, api.Or:
		l, err := r.inside(n, most, deep+1)
		return api.Filter{Kind: kind, L: l}, err
	}
	return condition(kind, n)
}

// inside are the filters in one, at least one, and so many at most.
func (r reader) inside(n api.Node, most, deep int) ([]api.Filter, error) {
	if n.Data != "" {
		return nil, errTree
	}
	var all []api.Filter
	var wrong error
filters:
	for one, err := range r.filters(n.Kids, deep) {
		switch {
		case err != nil:
			wrong = err
			break filters
		case len(all) == most: // however many stand behind
			wrong = errCount
			break filters
		}
		all = append(all, one)
	}
	if wrong == nil && len(all) == 0 {
		wrong = errCount
	}
	return all, wrong
}

// filters are those of some trees; an error is the last that is told.
func (r reader) filters(kids []api.Node, deep int) iter.Seq2[api.Filter, error] {
	return func(yield func(api.Filter, error) bool) {
		for _, kid := range kids {
			f, err := r.filter(kid, deep)
			if !yield(f, err) || err != nil {
				return
			}
		}
	}
}

// condition is a filter without others in it. What its tree asks for is taken on trust; then the tree that this makes is held against the one that was read, so that nothing in it is passed over.
func condition(kind int, n api.Node) (api.Filter, error) {
	f, err := asked(kind, n)
	if err != nil {
		return api.Filter{}, err
	}
	made, err := build(f)
	if err == nil && !tlv.Same(made, n) {
		err = errTree
	}
	return f, err
}

// asked is what a condition's tree asks for.
func asked(kind int, n api.Node) (api.Filter, error) {
	if kind == api.Present {
		return api.Filter{Kind: kind, Name: strings.Clone(n.Data)}, nil
	}
	if len(n.Kids) != pair {
		return api.Filter{}, errCount
	}
	f := api.Filter{Kind: kind, Name: strings.Clone(n.Kids[0].Data)}
	value := n.Kids[1]
	switch {
	case kind != api.Subs:
		f.Value = strings.Clone(value.Data)
	case len(value.Kids) > mostPieces: // however many there are
		return api.Filter{}, errCount
	default:
		takePieces(&f, value.Kids)
	}
	return f, nil
}

// takePieces puts into a filter what its pieces' tags tell.
func takePieces(f *api.Filter, kids []api.Node) {
	for _, one := range kids {
		text := strings.Clone(one.Data)
		switch one.Tag {
		case tagStart:
			f.Value = text
		case tagBetween:
			f.Any = append(f.Any, text)
		case tagFinal:
			f.Final = text
		}
	}
}

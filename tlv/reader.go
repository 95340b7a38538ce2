package tlv

import (
	"iter"
	"strings"

	"latiner/api"
	"latiner/size"
)

// text is what is read from.
type text struct{ s string }

// place tells whether a number is a place of the text, its end among them.
func (t text) place(at int) bool { return at >= 0 && at <= len(t.s) }

// length is the length that is told at a place, of the bytes ahead of an end, and the place behind it.
func (t text) length(at, end int) (int, int, error) {
	n, behind, e := size.Decode(t.s[:end], at)
	if e != api.OK {
		return 0, 0, noLength{e}
	}
	return n, behind, nil
}

// piece is a copy, so that a tree does not keep the text that it was read from.
func (t text) piece(from, behind int) string { return strings.Clone(t.s[from:behind]) }

// reader reads one tree, and counts those that it met.
type reader struct {
	text
	count int
}

// head is what stands ahead of a body, and where that lies.
type head struct {
	tag    int
	from   int
	behind int
}

// read is the tree at a place, and the place behind, if it is right.
func read(s string, at int) (api.Node, int, error) {
	r := reader{text: text{s}}
	if !r.place(at) {
		return api.Node{}, 0, fault{at: at, why: errShort}
	}
	n, behind, err := r.tree(at, len(s), 1)
	if err == nil {
		err = check(n)
	}
	if err != nil {
		return api.Node{}, 0, err
	}
	return n, behind, nil
}

// tree is the one that begins at a place and stands so deep, and the place behind it.
func (r *reader) tree(at, end, deep int) (api.Node, int, error) {
	h, err := r.head(at, end, deep)
	if err != nil {
		return api.Node{}, 0, fault{at: at, why: err}
	}
	n := api.Node{Tag: h.tag}
	if !isInner(h.tag) {
		n.Data = r.piece(h.from, h.behind)
		return n, h.behind, nil
	}
	for kid, err := range r.trees(h.from, h.behind, deep+1) {
		if err != nil {
			return api.Node{}, 0, err
		}
		n.Kids = append(n.Kids, kid)
	}
	return n, h.behind, nil
}

// trees are those from a place up to an end; an error is the last that is told.
func (r *reader) trees(at, end, deep int) iter.Seq2[api.Node, error] {
	return func(yield func(api.Node, error) bool) {
		for from := at; from < end; {
			n, behind, err := r.tree(from, end, deep)
			if !yield(n, err) || err != nil {
				return
			}
			from = behind
		}
	}
}

// head asks in the document's order, since the first thing that is wrong names the error.
func (r *reader) head(at, end, deep int) (head, error) {
	if r.count == api.MaxNodes || deep > api.MaxDeep {
		return head{}, errNode
	}
	r.count++
	if at == end {
		return head{}, errShort
	}
	tag := int(r.s[at])
	if tag&lower == lower {
		return head{}, errTag
	}
	n, from, err := r.length(at+1, end)
	if err != nil {
		return head{}, err
	}
	if n > end-from {
		return head{}, errShort
	}
	return head{tag: tag, from: from, behind: from + n}, nil
}

package tlv

import (
	"iter"
	"strings"

	"latiner/api"
	"latiner/size"
)

const (
	maxTag = 255
	lower  = 31 // a tag's lower five bits; BER goes on behind a tag that has them all
)

// all are the trees in a tree, itself first, each with how deep it stands.
func all(n api.Node) iter.Seq2[int, api.Node] {
	return func(yield func(int, api.Node) bool) { pass(n, 1, yield) }
}

// pass tells whether more is wanted, so that a tree that is too great is left as soon as that is known.
func pass(n api.Node, deep int, yield func(int, api.Node) bool) bool {
	if !yield(deep, n) {
		return false
	}
	for _, kid := range n.Kids {
		if !pass(kid, deep+1, yield) {
			return false
		}
	}
	return true
}

// check says why a tree is not right; the place is how many trees stand ahead of the one where that is seen.
func check(n api.Node) error {
	var why error
	at := 0
trees:
	for deep, tree := range all(n) {
		switch {
		case at == api.MaxNodes || deep > api.MaxDeep:
			why = errNode
			break trees
		case !fits(tree):
			why = errKind
			break trees
		}
		at++
	}
	if why == nil && measure(n) > api.MaxPdu {
		at, why = 0, errLarge
	}
	if why != nil {
		return fault{at: at, why: why}
	}
	return nil
}

// fits tells whether a tree has a tag, and just what that allows.
func fits(n api.Node) bool {
	inner := isInner(n.Tag)
	switch {
	case n.Tag < 0 || n.Tag > maxTag:
		fallthrough
	case n.Tag&lower == lower:
		return false
	case inner && n.Data != "":
		fallthrough
	case !inner && len(n.Kids) > 0:
		return false
	}
	return true
}

func isInner(tag int) bool { return tag&api.Inner != 0 }

// measure is how many bytes a tree has, or, if a body in it is too great for a length, a number that is too great too.
func measure(n api.Node) int {
	body := len(n.Data)
	for _, kid := range n.Kids {
		body += measure(kid)
	}
	told, _ := size.Size(body) // 0, if that is no length
	return 1 + told + body
}

// lay are the bytes of a tree that is right.
func lay(n api.Node) string {
	body := n.Data
	if isInner(n.Tag) {
		kids := make([]string, 0, len(n.Kids))
		for _, kid := range n.Kids {
			kids = append(kids, lay(kid))
		}
		body = join(kids...)
	}
	told, _ := size.Encode(len(body)) // what is right is shorter than the greatest length
	return join(string([]byte{byte(n.Tag)}), told, body)
}

func join(pieces ...string) string { return strings.Join(pieces, "") }

package part

import (
	"strings"

	"latiner/api"
	"latiner/prim"
)

// leaf has a copy of its text, so that a tree does not keep the part that it was made of.
func leaf(tag int, text string) api.Node {
	return api.Node{Tag: tag, Data: strings.Clone(text)}
}

func inner(tag int, kids ...api.Node) api.Node { return api.Node{Tag: tag, Kids: kids} }

// number has the bytes of a number that rules have held small.
func number(n int) api.Node {
	s, _ := prim.Int(n)
	return leaf(tagNumber, s)
}

// texts are trees of texts, in one.
func texts(tag int, l []string) api.Node {
	var kids []api.Node
	for _, s := range l {
		kids = append(kids, leaf(tagText, s))
	}
	return inner(tag, kids...)
}

// controlTree is that of a control that is right.
func controlTree(c api.Control) api.Node {
	kids := []api.Node{leaf(tagText, c.Oid)}
	if c.Critical {
		kids = append(kids, leaf(tagBool, prim.Bool(true)))
	}
	if c.Has {
		kids = append(kids, leaf(tagText, c.Value))
	}
	return inner(tagList, kids...)
}

// attrTree is that of an attribute that is right.
func attrTree(a api.Attr) api.Node {
	return inner(tagList, leaf(tagText, a.Name), texts(tagValues, a.Values))
}

// changeTree is that of a change that is right.
func changeTree(c api.Change) api.Node {
	return inner(tagList, number(c.Kind), attrTree(c.Attr))
}

// resultTrees are those of a result that is right.
func resultTrees(r api.Result) []api.Node {
	l := []api.Node{number(r.Code), leaf(tagText, r.Dn), leaf(tagText, r.Text)}
	if len(r.Refs) > 0 {
		l = append(l, texts(tagRefs, r.Refs))
	}
	return l
}

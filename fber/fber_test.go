package fber_test

import (
	"encoding/hex"
	"fmt"
	"math/rand"
	"reflect"
	"regexp"
	"slices"
	"strings"
	"testing"

	"latiner/api"
	"latiner/fber"
	"latiner/filt"
	"latiner/tlv"
)

func letters(n int) string { return strings.Repeat("a", n) }

func of(kind int, l ...api.Filter) api.Filter { return api.Filter{Kind: kind, L: l} }

func present(name string) api.Filter { return api.Filter{Kind: api.Present, Name: name} }

func equal(name, value string) api.Filter {
	return api.Filter{Kind: api.Equal, Name: name, Value: value}
}

// subs is one of what it begins with, what it ends with, and what comes between.
func subs(name, value, final string, between ...string) api.Filter {
	return api.Filter{Kind: api.Subs, Name: name, Value: value, Final: final, Any: between}
}

// nested is a filter in so many others.
func nested(kind, n int, f api.Filter) api.Filter {
	for range n {
		f = of(kind, f)
	}
	return f
}

func leaf(tag int, data string) api.Node { return api.Node{Tag: tag, Data: data} }

func inner(tag int, kids ...api.Node) api.Node { return api.Node{Tag: tag, Kids: kids} }

// examples are texts of filters, beside the bytes of their trees, in digits.
var examples = map[string]string{
	`(a=*)`:                                 "87 01 61",
	`(cn;x=*)`:                              "87 04 636e3b78",
	`(a=b)`:                                 "a3 06 04 01 61 04 01 62",
	`(a=)`:                                  "a3 05 04 01 61 04 00",
	`(a>=b)`:                                "a5 06 04 01 61 04 01 62",
	`(a<=b)`:                                "a6 06 04 01 61 04 01 62",
	`(a~=b)`:                                "a8 06 04 01 61 04 01 62",
	`(a>=)`:                                 "a5 05 04 01 61 04 00",
	`(a<=)`:                                 "a6 05 04 01 61 04 00",
	`(a~=)`:                                 "a8 05 04 01 61 04 00",
	`(a=\2a\00\ff)`:                         "a3 08 04 01 61 04 03 2a00ff",
	`(a=x*)`:                                "a4 08 04 01 61 30 03 80 01 78",
	`(a=*x*)`:                               "a4 08 04 01 61 30 03 81 01 78",
	`(a=*x)`:                                "a4 08 04 01 61 30 03 82 01 78",
	`(a=x*y)`:                               "a4 0b 04 01 61 30 06 80 01 78 82 01 79",
	`(a=x*y*)`:                              "a4 0b 04 01 61 30 06 80 01 78 81 01 79",
	`(a=*x*y)`:                              "a4 0b 04 01 61 30 06 81 01 78 82 01 79",
	`(a=x*y*z)`:                             "a4 0e 04 01 61 30 09 80 01 78 81 01 79 82 01 7a",
	`(a=0*1*2*3*4*5)`:                       "a4 17 04 01 61 30 12 80 01 30 81 01 31 81 01 32 81 01 33 81 01 34 82 01 35",
	`(a=*4*3*2*1*)`:                         "a4 11 04 01 61 30 0c 81 01 34 81 01 33 81 01 32 81 01 31",
	`(a=\2a*\00*\ff)`:                       "a4 0e 04 01 61 30 09 80 01 2a 81 01 00 82 01 ff",
	`(&(a=*))`:                              "a0 03 87 01 61",
	`(|(a=*))`:                              "a1 03 87 01 61",
	`(!(a=*))`:                              "a2 03 87 01 61",
	`(&(b=*)(a=*)(b=*))`:                    "a0 09 87 01 62 87 01 61 87 01 62",
	`(|(a=*)(b=*))`:                         "a1 06 87 01 61 87 01 62",
	`(&(a=1)(!(b=x*y)))`:                    "a0 17 a3 06 04 01 61 04 01 31 a2 0d a4 0b 04 01 62 30 06 80 01 78 82 01 79",
	`(!(!(!(!(!(a=*))))))`:                  "a2 0b a2 09 a2 07 a2 05 a2 03 87 01 61",
	`(&(|(a=*)(!(b=c)))(d>=)(e~=f)(g<=h))`:  "a0 26 a1 0d 87 01 61 a2 08 a3 06 04 01 62 04 01 63 a5 05 04 01 64 04 00 a8 06 04 01 65 04 01 66 a6 06 04 01 67 04 01 68",
	"(&" + strings.Repeat("(a=*)", 8) + ")": "a0 18" + strings.Repeat("87 01 61", 8),
	"(a=" + letters(60) + ")":               "a3 41 04 01 61 04 3c" + strings.Repeat("61", 60),
	"(a=*" + letters(60) + ")":              "a4 43 04 01 61 30 3e 82 3c" + strings.Repeat("61", 60),
	"(a=" + letters(60) + "*" + letters(60) + ")": "a4 81 81 04 01 61 30 7c 80 3c" + strings.Repeat("61", 60) + "82 3c" + strings.Repeat("61", 60),
	"(" + letters(20) + ";" + letters(9) + "=*)":  "87 1e" + strings.Repeat("61", 20) + "3b" + strings.Repeat("61", 9),
}

func unhex(t *testing.T, digits string) string {
	t.Helper()
	s, err := hex.DecodeString(strings.ReplaceAll(digits, " ", ""))
	if err != nil {
		t.Fatal(err)
	}
	return string(s)
}

func parse(t *testing.T, s string) api.Filter {
	t.Helper()
	f, e := filt.Parse(s)
	if e != api.OK {
		t.Fatalf("Parse(%q): %d", s, e)
	}
	return f
}

// plainTree says plainly what a filter's tree is.
func plainTree(f api.Filter) api.Node {
	name, value := leaf(4, f.Name), leaf(4, f.Value)
	switch f.Kind {
	case 3:
		return inner(0xa3, name, value)
	case 4:
		list := inner(0x30)
		if f.Value != "" {
			list.Kids = append(list.Kids, leaf(0x80, f.Value))
		}
		for _, s := range f.Any {
			list.Kids = append(list.Kids, leaf(0x81, s))
		}
		if f.Final != "" {
			list.Kids = append(list.Kids, leaf(0x82, f.Final))
		}
		return inner(0xa4, name, list)
	case 5:
		return inner(0xa5, name, value)
	case 6:
		return inner(0xa6, name, value)
	case 7:
		return leaf(0x87, f.Name)
	case 8:
		return inner(0xa8, name, value)
	}
	n := inner(0xa0 + f.Kind)
	for _, one := range f.L {
		n.Kids = append(n.Kids, plainTree(one))
	}
	return n
}

var pieceTags = regexp.MustCompile(`^s?b*f?$`)

// plainRead says plainly which filter a tree is of, right or not, if it is of one.
func plainRead(n api.Node) (api.Filter, bool) {
	switch n.Tag {
	case 0xa0, 0xa1, 0xa2:
		f := of(n.Tag - 0xa0)
		for _, kid := range n.Kids {
			one, ok := plainRead(kid)
			if !ok {
				return api.Filter{}, false
			}
			f.L = append(f.L, one)
		}
		return f, n.Data == ""
	case 0x87:
		return present(n.Data), len(n.Kids) == 0
	}
	kind, ok := map[int]int{0xa3: 3, 0xa4: 4, 0xa5: 5, 0xa6: 6, 0xa8: 8}[n.Tag]
	if !ok || n.Data != "" || len(n.Kids) != 2 || n.Kids[0].Tag != 4 || len(n.Kids[0].Kids) != 0 {
		return api.Filter{}, false
	}
	f, asked := api.Filter{Kind: kind, Name: n.Kids[0].Data}, n.Kids[1]
	if kind != 4 {
		f.Value = asked.Data
		return f, asked.Tag == 4 && len(asked.Kids) == 0
	}
	var tags []byte
	for _, kid := range asked.Kids {
		if kid.Data == "" || len(kid.Kids) != 0 {
			return api.Filter{}, false
		}
		switch kid.Tag {
		case 0x80:
			tags, f.Value = append(tags, 's'), kid.Data
		case 0x81:
			tags, f.Any = append(tags, 'b'), append(f.Any, kid.Data)
		case 0x82:
			tags, f.Final = append(tags, 'f'), kid.Data
		default:
			tags = append(tags, '?')
		}
	}
	return f, asked.Tag == 0x30 && asked.Data == "" && pieceTags.Match(tags)
}

// brief is what is told of a filter or a tree, however great it is.
func brief(what any) string { return fmt.Sprintf("%.400s", fmt.Sprint(what)) }

// checkTree holds what is read from a tree, and from its bytes, against the chapter's words; it tells whether it may be read.
func checkTree(t *testing.T, n api.Node) bool {
	t.Helper()
	f, e := fber.Read(n)
	want, ok := plainRead(n)
	if !ok || !filt.Right(want) {
		if !reflect.DeepEqual(f, api.Filter{}) || e != api.ErrFilter {
			t.Fatalf("Read(%s) = %s, %d; want ErrFilter", brief(n), brief(f), e)
		}
		if s, e := tlv.Encode(n); e == api.OK {
			checkBytes(t, s)
		}
		return false
	}
	if !filt.Same(f, want) || e != api.OK {
		t.Fatalf("Read(%s) = %s, %d; want %s", brief(n), brief(f), e, brief(want))
	}
	if again, e := fber.Tree(f); !tlv.Same(again, n) || e != api.OK {
		t.Fatalf("Tree(%s) = %s, %d; want %s", brief(f), brief(again), e, brief(n))
	}
	checkRight(t, f)
	return true
}

// checkBytes holds what is decoded against what is read from the tree that layer 2 tells; it tells whether it may be.
func checkBytes(t *testing.T, s string) bool {
	t.Helper()
	f, e := fber.Decode(s)
	n, wrong := tlv.Whole(s)
	want, ok := plainRead(n)
	if wrong != api.OK || !ok || !filt.Right(want) {
		if !reflect.DeepEqual(f, api.Filter{}) || e != api.ErrFilter {
			t.Fatalf("Decode(%.200x) = %s, %d; want ErrFilter", s, brief(f), e)
		}
		return false
	}
	if !filt.Same(f, want) || e != api.OK {
		t.Fatalf("Decode(%.200x) = %s, %d; want %s", s, brief(f), e, brief(want))
	}
	checkRight(t, f)
	return true
}

// checkRight makes a filter's tree and bytes, if it has some, and reads them again.
func checkRight(t *testing.T, f api.Filter) {
	t.Helper()
	n, e := fber.Tree(f)
	if !tlv.Same(n, plainTree(f)) || e != api.OK {
		t.Fatalf("Tree(%s) = %s, %d; want %s", brief(f), brief(n), e, brief(plainTree(f)))
	}
	again, e := fber.Read(n)
	if !filt.Same(again, f) || e != api.OK {
		t.Fatalf("Read(%s) = %s, %d; want %s", brief(n), brief(again), e, brief(f))
	}
	told, _ := filt.Print(f)
	if s, e := filt.Print(again); s != told || e != api.OK {
		t.Fatalf("the text of %s is %q; want %q", brief(again), s, told)
	}
	s, e := fber.Encode(f)
	if want, wrong := tlv.Encode(n); wrong != api.OK {
		if s != "" || e != api.ErrFilter {
			t.Fatalf("Encode(%s) = %.200x, %d; want ErrFilter", brief(f), s, e)
		}
		return
	} else if s != want || e != api.OK {
		t.Fatalf("Encode(%s) = %.200x, %d; want %.200x", brief(f), s, e, want)
	}
	if again, e := fber.Decode(s); !filt.Same(again, f) || e != api.OK {
		t.Fatalf("Decode(%.200x) = %s, %d; want %s", s, brief(again), e, brief(f))
	}
}

// P9.1, P9.2, P9.3
func TestExamples(t *testing.T) {
	for text, digits := range examples {
		f, want := parse(t, text), unhex(t, digits)
		if s, e := fber.Encode(f); s != want || e != api.OK {
			t.Errorf("Encode of %.60q = %x, %d; want %x", text, s, e, want)
		}
		g, e := fber.Decode(want)
		if told, again := filt.Print(g); !filt.Same(g, f) || e != api.OK || told != text || again != api.OK {
			t.Errorf("Decode(%x) = %v, %d: %.60q; want %.60q", want, g, e, told, text)
		}
		checkRight(t, f)
	}
}

// P9.1
func TestEmptyLists(t *testing.T) {
	f := api.Filter{Kind: api.Equal, Name: "a", Any: []string{}, L: []api.Filter{}}
	n, e := fber.Tree(f)
	if !tlv.Same(n, inner(0xa3, leaf(4, "a"), leaf(4, ""))) || e != api.OK {
		t.Errorf("Tree = %v, %d", n, e)
	}
	n = api.Node{Tag: 0x87, Data: "a", Kids: []api.Node{}}
	if f, e := fber.Read(n); !filt.Same(f, present("a")) || e != api.OK {
		t.Errorf("Read = %v, %d", f, e)
	}
}

// wrongFilters are not right, each for one cause.
func wrongFilters() map[string]api.Filter {
	one := present("a")
	return map[string]api.Filter{
		"nothing":               {},
		"kind -1":               {Kind: -1, Name: "a"},
		"kind 9":                {Kind: 9, Name: "a"},
		"kind 9 of filters":     of(9, one),
		"the greatest kind":     {Kind: 1<<63 - 1, Name: "a", L: []api.Filter{one}},
		"and of none":           of(api.And),
		"or of none":            of(api.Or),
		"not of none":           of(api.Not),
		"not of two":            of(api.Not, one, one),
		"and of nine":           of(api.And, slices.Repeat([]api.Filter{one}, 9)...),
		"or of nine":            of(api.Or, slices.Repeat([]api.Filter{one}, 9)...),
		"or of many":            of(api.Or, slices.Repeat([]api.Filter{one}, 100000)...),
		"and with a name":       {Kind: api.And, Name: "a", L: []api.Filter{one}},
		"or with a value":       {Kind: api.Or, Value: "a", L: []api.Filter{one}},
		"not with what ends":    {Kind: api.Not, Final: "a", L: []api.Filter{one}},
		"and with between":      {Kind: api.And, Any: []string{"a"}, L: []api.Filter{one}},
		"and of a wrong one":    of(api.And, one, equal("a;", "b")),
		"no name":               equal("", "b"),
		"a wrong name":          equal("a b", "b"),
		"a long name":           present(letters(21)),
		"long options":          present(letters(20) + ";" + letters(10)),
		"a long value":          equal("a", letters(61)),
		"a value of Present":    {Kind: api.Present, Name: "a", Value: "b"},
		"what is in Equal":      {Kind: api.Equal, Name: "a", L: []api.Filter{one}},
		"what ends Greater":     {Kind: api.Greater, Name: "a", Final: "b"},
		"what is between Less":  {Kind: api.Less, Name: "a", Any: []string{"b"}},
		"an empty between":      {Kind: api.Approx, Name: "a", Any: []string{""}},
		"subs of nothing":       subs("a", "", ""),
		"subs with an empty":    subs("a", "x", "y", ""),
		"subs with five":        subs("a", "x", "y", "1", "2", "3", "4", "5"),
		"subs with 61":          subs("a", "", "", letters(61)),
		"subs begins with 61":   subs("a", letters(61), ""),
		"subs ends with 61":     subs("a", "", letters(61)),
		"subs with a filter":    {Kind: api.Subs, Name: "a", Value: "x", L: []api.Filter{one}},
		"7 deep":                nested(api.Not, 6, one),
		"7 deep, last":          of(api.And, one, nested(api.Or, 5, one)),
		"60000 deep":            nested(api.And, 60000, one),
		"60000 deep, no filter": nested(api.Not, 60000, api.Filter{}),
	}
}

// P9.1, P9.2
func TestWrongFiltersAreRefused(t *testing.T) {
	for why, f := range wrongFilters() {
		for _, f := range []api.Filter{f, of(api.And, present("a"), f)} {
			if n, e := fber.Tree(f); !reflect.DeepEqual(n, api.Node{}) || e != api.ErrFilter {
				t.Errorf("%s: Tree = %v, %d; want ErrFilter", why, n, e)
			}
			if s, e := fber.Encode(f); s != "" || e != api.ErrFilter {
				t.Errorf("%s: Encode = %x, %d; want ErrFilter", why, s, e)
			}
		}
	}
}

// P9.1, P9.2: the trees of filters that are not right are no right filter's.
func TestTreesOfWrongFiltersAreRefused(t *testing.T) {
	for why, f := range map[string]api.Filter{
		"and of none":             of(api.And),
		"or of none":              of(api.Or),
		"not of none":             of(api.Not),
		"not of two":              of(api.Not, present("a"), present("b")),
		"not of many":             of(api.Not, slices.Repeat([]api.Filter{present("a")}, 100000)...),
		"and of nine":             of(api.And, slices.Repeat([]api.Filter{present("a")}, 9)...),
		"or of nine":              of(api.Or, slices.Repeat([]api.Filter{present("a")}, 9)...),
		"or of many":              of(api.Or, slices.Repeat([]api.Filter{present("a")}, 100000)...),
		"and of a wrong one":      of(api.And, present("a"), of(api.Or)),
		"no name":                 equal("", "b"),
		"a wrong name":            present("a;"),
		"a long name":             equal(letters(21), "b"),
		"long options":            present(letters(20) + ";" + letters(10)),
		"a very long name":        present(letters(1000000)),
		"a long value":            equal("a", letters(61)),
		"a very long value":       equal("a", letters(1000000)),
		"subs of nothing":         subs("a", "", ""),
		"subs with an empty":      subs("a", "x", "y", ""),
		"subs with five":          subs("a", "x", "y", "1", "2", "3", "4", "5"),
		"subs with five, no ends": subs("a", "", "", "1", "2", "3", "4", "5"),
		"subs with many":          subs("a", "", "", slices.Repeat([]string{"b"}, 100000)...),
		"subs with 61":            subs("a", "", "", letters(61)),
		"subs begins with 61":     subs("a", letters(61), ""),
		"subs ends with 61":       subs("a", "", letters(61)),
		"7 deep":                  nested(api.Not, 6, present("a")),
		"7 deep, subs":            nested(api.And, 6, subs("a", "x", "")),
		"7 deep, last":            of(api.And, present("a"), nested(api.Or, 5, present("a"))),
		"60000 deep":              nested(api.And, 60000, present("a")),
		"60000 deep, no ends":     nested(api.Not, 60000, of(api.And)),
	} {
		n := plainTree(f)
		if checkTree(t, n) || checkTree(t, inner(0xa1, leaf(0x87, "a"), n)) {
			t.Errorf("%s: read", why)
		}
	}
}

// P9.1
func TestTreesOfNoFilterAreRefused(t *testing.T) {
	a, b := leaf(4, "a"), leaf(4, "b")
	for i, n := range []api.Node{
		{},
		leaf(4, "a"),
		leaf(0x80, "a"),
		leaf(0x87, ""),
		leaf(0xa7, "a"),
		inner(0xa7, a),
		inner(0x30, a, b),
		inner(0xa9, a, b),
		inner(0x87, a),
		{Tag: 0x87, Data: "a", Kids: []api.Node{a}},
		{Tag: -0x100 + 0x87, Data: "a"},
		{Tag: 0x187, Data: "a"},
		{Tag: 1<<32 + 0x87, Data: "a"},
		// Data in trees, and trees in data.
		{Tag: 0xa0, Data: "x", Kids: []api.Node{leaf(0x87, "a")}},
		{Tag: 0xa2, Data: "x", Kids: []api.Node{leaf(0x87, "a")}},
		leaf(0xa0, "a"),
		{Tag: 0xa3, Data: "x", Kids: []api.Node{a, b}},
		inner(0xa3, api.Node{Tag: 4, Data: "a", Kids: []api.Node{b}}, b),
		inner(0xa3, a, api.Node{Tag: 4, Data: "b", Kids: []api.Node{b}}),
		inner(0xa3, a, api.Node{Tag: 4, Kids: []api.Node{b}}),
		inner(0xa4, a, api.Node{Tag: 0x30, Data: "x", Kids: []api.Node{leaf(0x80, "b")}}),
		inner(0xa4, a, leaf(0x30, "x")),
		inner(0xa4, a, inner(0x30, api.Node{Tag: 0x80, Data: "x", Kids: []api.Node{b}})),
		inner(0xa4, a, inner(0x30, leaf(0x80, "x"), api.Node{Tag: 0x81, Kids: []api.Node{b}})),
		// Too few, too many, or others.
		inner(0xa3),
		inner(0xa3, a),
		inner(0xa3, a, b, b),
		inner(0xa8, a, leaf(0x24, "b")),
		inner(0xa5, leaf(0x87, "a"), b),
		inner(0xa6, a, leaf(0x80, "b")),
		inner(0xa3, a, inner(0x30, leaf(0x80, "b"))),
		inner(0xa4, a, b),
		inner(0xa4, a),
		inner(0xa4, a, inner(0x30)),
		inner(0xa4, a, inner(0x31, leaf(0x80, "b"))),
		inner(0xa4, a, inner(0x30, leaf(0x80, "b")), b),
		inner(0xa4, inner(0x30, leaf(0x80, "b")), a),
		inner(0xa4, leaf(0x80, "a"), inner(0x30, leaf(0x80, "b"))),
		inner(0xa4, a, inner(0x30, leaf(0x80, ""))),
		inner(0xa4, a, inner(0x30, leaf(0x82, ""))),
		inner(0xa4, a, inner(0x30, leaf(0x80, ""), leaf(0x81, "b"))),
		inner(0xa4, a, inner(0x30, leaf(0x81, "b"), leaf(0x82, ""))),
		inner(0xa4, a, inner(0x30, leaf(0x80, "b"), leaf(0x80, "b"))),
		inner(0xa4, a, inner(0x30, leaf(0x82, "b"), leaf(0x82, "b"))),
		inner(0xa4, a, inner(0x30, leaf(0x81, "b"), leaf(0x80, "b"))),
		inner(0xa4, a, inner(0x30, leaf(0x82, "b"), leaf(0x81, "b"))),
		inner(0xa4, a, inner(0x30, leaf(0x82, "b"), leaf(0x80, "b"))),
		inner(0xa4, a, inner(0x30, leaf(0x80, "b"), leaf(0x83, "b"))),
		inner(0xa4, a, inner(0x30, leaf(0x04, "b"))),
		inner(0xa4, a, inner(0x30, leaf(0xa0, "b"))),
		inner(0xa4, a, inner(0x30, leaf(0x180, "b"))),
		inner(0xa0, a),
		inner(0xa1, leaf(0x87, "a"), a),
		inner(0xa2, inner(0xa2)),
		inner(0xa2, inner(0x30, leaf(0x87, "a"))),
	} {
		if checkTree(t, n) || checkTree(t, inner(0xa2, n)) {
			t.Errorf("%d: %v is read", i, n)
		}
	}
}

// P9.2
func TestBytesOfNoFilterAreRefused(t *testing.T) {
	deep := "87 01 61"
	for range 6 {
		deep = "a2" + hex.EncodeToString([]byte{byte(len(unhex(t, deep)))}) + deep
	}
	for _, digits := range []string{
		"", "61", "87", "87 01", "87 00", "87 01 3b", "87 80 61", "1f 00", "87 01 61 00", "87 01 61 87 01 61",
		"a0 00", "a1 00", "a2 00", "a2 06 87 01 61 87 01 61", "a0 1b" + strings.Repeat("87 01 61", 9),
		"a0 04 87 01 61", "a0 02 87 01 61", "a0 03 87 01 61 00",
		"a3 03 04 01 61", "a3 09 04 01 61 04 01 62 04 01 63", "a3 06 02 01 61 04 01 62", "a3 06 04 01 61 02 01 62", "a3 06 04 01 61 04 01",
		"a4 05 04 01 61 30 00", "a4 05 04 01 61 04 00", "a4 08 04 01 61 31 03 81 01 78", "a4 08 04 01 61 30 03 83 01 78",
		"a7 03 87 01 61", "a9 06 04 01 61 04 01 62", "30 00", "30 03 87 01 61", "04 01 61", "83 06 04 01 61 04 01 62", deep,
		"87 82 10 00" + strings.Repeat("61", 4096), "a0 03 87 84 01 00 00 00",
	} {
		if checkBytes(t, unhex(t, digits)) {
			t.Errorf("%.80s is decoded", digits)
		}
	}
}

// P9.2: lengths need not be the least ones.
func TestBytesThatAreNotEncodedSo(t *testing.T) {
	for digits, text := range map[string]string{
		"87 81 01 61":                                        `(a=*)`,
		"87 84 00 00 00 01 61":                               `(a=*)`,
		"a3 82 00 07 04 81 01 61 04 01 62":                   `(a=b)`,
		"a2 83 00 00 05 87 82 00 01 61 00":                   ``,
		"a2 83 00 00 05 87 82 00 01 61":                      `(!(a=*))`,
		"a4 81 09 04 01 61 30 81 03 81 01 78":                `(a=*x*)`,
		"a0 81 0e 87 01 61 a3 82 00 07 04 01 61 04 81 01 62": `(&(a=*)(a=b))`,
	} {
		s := unhex(t, digits)
		f, e := fber.Decode(s)
		if text == "" {
			if !reflect.DeepEqual(f, api.Filter{}) || e != api.ErrFilter {
				t.Errorf("Decode(%x) = %v, %d; want ErrFilter", s, f, e)
			}
			continue
		}
		if !filt.Same(f, parse(t, text)) || e != api.OK {
			t.Errorf("Decode(%x) = %v, %d; want %s", s, f, e, text)
		}
		checkBytes(t, s)
	}
}

// changes are trees that are a tree but for one change, at any place of it.
func changes(n api.Node) []api.Node {
	var all []api.Node
	for tag := -1; tag <= 257; tag++ {
		all = append(all, api.Node{Tag: tag, Data: n.Data, Kids: n.Kids})
	}
	for _, tag := range []int{n.Tag - 256, n.Tag + 256, n.Tag + 1<<16, -n.Tag} {
		all = append(all, api.Node{Tag: tag, Data: n.Data, Kids: n.Kids})
	}
	for _, data := range []string{"", "b", n.Data + "c", n.Data + ";", n.Data + " ", n.Data + "\x00", letters(30), letters(60), letters(61)} {
		all = append(all, api.Node{Tag: n.Tag, Data: data, Kids: n.Kids}, api.Node{Tag: n.Tag, Data: data})
	}
	put := func(kids []api.Node) { all = append(all, api.Node{Tag: n.Tag, Data: n.Data, Kids: kids}) }
	new := []api.Node{{}, leaf(4, "a"), leaf(4, ""), leaf(0x80, "a"), leaf(0x81, "a"), leaf(0x82, "a"), leaf(0x81, ""), leaf(0x87, "a"), inner(0x30), inner(0x30, leaf(0x81, "a")), inner(0xa3, leaf(4, "a"), leaf(4, "b"))}
	for at := range len(n.Kids) + 1 {
		for _, kid := range new {
			put(slices.Insert(slices.Clone(n.Kids), at, kid))
			put(append(slices.Clone(n.Kids[:at]), kid))
		}
		put(slices.Clone(n.Kids[:at]))
		put(slices.Clone(n.Kids[at:]))
	}
	for at := range n.Kids {
		put(slices.Delete(slices.Clone(n.Kids), at, at+1))
		put(slices.Insert(slices.Clone(n.Kids), at, n.Kids[at]))
		for other := range n.Kids {
			kids := slices.Clone(n.Kids)
			kids[at], kids[other] = kids[other], kids[at]
			put(kids)
		}
		for _, kid := range changes(n.Kids[at]) {
			kids := slices.Clone(n.Kids)
			kids[at] = kid
			put(kids)
		}
	}
	return all
}

// P9.1, P9.3
func TestEveryChangeOfATree(t *testing.T) {
	count := map[bool]int{}
	for text := range examples {
		for _, n := range changes(plainTree(parse(t, text))) {
			count[checkTree(t, n)]++
		}
	}
	if count[true] < 1000 || count[false] < 1000 {
		t.Fatalf("too few of a kind: %v", count)
	}
}

// P9.2, P9.3
func TestEveryByteAtEveryPlace(t *testing.T) {
	count := map[bool]int{}
	for _, text := range []string{`(a=*)`, `(a=b)`, `(a=x*y*z)`, `(&(a=1)(!(b=x*y)))`, `(|(a>=\ff)(b=*))`} {
		s, _ := fber.Encode(parse(t, text))
		for at := range len(s) + 1 {
			for i := range 256 {
				b := string([]byte{byte(i)})
				count[checkBytes(t, s[:at]+b+s[at:])]++
				if at < len(s) {
					count[checkBytes(t, s[:at]+b+s[at+1:])]++
				}
			}
			count[checkBytes(t, s[:at])]++
			count[checkBytes(t, s[at:])]++
		}
	}
	if count[true] < 100 || count[false] < 1000 {
		t.Fatalf("too few of a kind: %v", count)
	}
}

// P9.1: all lists of up to seven pieces, of these tags, empty or not.
func TestEveryListOfPieces(t *testing.T) {
	kinds := []api.Node{leaf(0x80, "x"), leaf(0x81, "y"), leaf(0x82, "z"), leaf(0x81, ""), leaf(0x83, "w")}
	count := 0
	var all func(kids []api.Node, left int)
	all = func(kids []api.Node, left int) {
		if checkTree(t, inner(0xa4, leaf(4, "a"), inner(0x30, kids...))) {
			count++
		}
		for i := range kinds {
			if left > 0 {
				all(append(slices.Clone(kids), kinds[i]), left-1)
			}
		}
	}
	all(nil, 7)
	if want := 2*5*2 - 1; count != want { // a start or none, up to four between, an end or none, but not nothing
		t.Errorf("%d lists are read; want %d", count, want)
	}
}

// anyText is a value, or a piece of one, mostly short, now and then about as long as it may be.
func anyText(r *rand.Rand) string {
	s := make([]byte, r.Intn(4))
	if r.Intn(60) == 0 {
		s = make([]byte, 59+r.Intn(3))
	}
	for i := range s {
		s[i] = byte(r.Intn(256))
	}
	return string(s)
}

// anyFilter is one, right or not, that is at most so deep.
func anyFilter(r *rand.Rand, deep int) api.Filter {
	names := []string{"a", "cn", "1.2", "a;b", letters(20) + ";" + letters(9)}
	f := api.Filter{Kind: r.Intn(9)}
	if deep < 2 {
		f.Kind = 3 + r.Intn(6)
	}
	if f.Kind <= api.Not {
		count := 1
		if f.Kind != api.Not {
			count += r.Intn(4)
		}
		if r.Intn(40) == 0 {
			count = r.Intn(10)
		}
		for range count {
			f.L = append(f.L, anyFilter(r, deep-1))
		}
		return f
	}
	f.Name = names[r.Intn(len(names))]
	if r.Intn(100) == 0 {
		f.Name = anyText(r)
	}
	if f.Kind != api.Present {
		f.Value = anyText(r)
	}
	if f.Kind == api.Subs {
		f.Final = anyText(r)
		for range r.Intn(6) {
			f.Any = append(f.Any, "x"+anyText(r))
		}
	}
	return f
}

// change is a tree with one change, somewhere in it.
func change(r *rand.Rand, n api.Node) api.Node {
	n.Kids = slices.Clone(n.Kids)
	if len(n.Kids) > 0 && r.Intn(4) != 0 {
		at := r.Intn(len(n.Kids))
		n.Kids[at] = change(r, n.Kids[at])
		return n
	}
	tags := []int{4, 0x30, 0x80, 0x81, 0x82, 0x87, 0xa0, 0xa1, 0xa2, 0xa3, 0xa4, 0xa5, 0xa6, 0xa8}
	tag := tags[r.Intn(len(tags))]
	switch r.Intn(5) {
	case 0, 1:
		n.Tag = tag
	case 2:
		n.Data = anyText(r)
	case 3:
		n.Kids = slices.Insert(n.Kids, r.Intn(len(n.Kids)+1), leaf(tag, anyText(r)))
	case 4:
		n.Kids = n.Kids[:r.Intn(len(n.Kids)+1)]
	}
	return n
}

// P9.1, P9.2, P9.3
func TestFiltersOfAnyKind(t *testing.T) {
	r := rand.New(rand.NewSource(9))
	right, read := map[bool]int{}, map[bool]int{}
	for range 30000 {
		f := anyFilter(r, 1+r.Intn(8))
		n := plainTree(f)
		right[filt.Right(f)]++
		if checkTree(t, n) != filt.Right(f) {
			t.Fatalf("Read(%v), of %v", n, f)
		}
		if !filt.Right(f) {
			if n, e := fber.Tree(f); !reflect.DeepEqual(n, api.Node{}) || e != api.ErrFilter {
				t.Fatalf("Tree(%v) = %v, %d; want ErrFilter", f, n, e)
			}
			if s, e := fber.Encode(f); s != "" || e != api.ErrFilter {
				t.Fatalf("Encode(%v) = %x, %d; want ErrFilter", f, s, e)
			}
		}
		read[checkTree(t, change(r, n))]++
	}
	if min(right[true], right[false], read[true], read[false]) < 1000 {
		t.Fatalf("too few of a kind: %v, %v", right, read)
	}
}

// P9.1, P9.2: a right filter has a tree, though that has more trees in it than bytes may have.
func TestAsManyTreesAsBytesMayHave(t *testing.T) {
	row := of(api.And, slices.Repeat([]api.Filter{equal("a", "b")}, 8)...)
	f := of(api.Or, slices.Repeat([]api.Filter{row}, 8)...) // 201 trees
	if n, e := fber.Tree(f); !tlv.Same(n, plainTree(f)) || e != api.OK {
		t.Errorf("Tree of 201 = .., %d", e)
	}
	if s, e := fber.Encode(f); s != "" || e != api.ErrFilter {
		t.Errorf("Encode of 201 = %x, %d", s, e)
	}
	checkRight(t, f)
	f.L[7] = of(api.And, append(slices.Repeat([]api.Filter{equal("a", "b")}, 7), of(api.Not, present("a")))...)
	s, e := fber.Encode(f) // 200
	if e != api.OK || s == "" {
		t.Errorf("Encode of 200: %d", e)
	}
	if again, e := fber.Decode(s); !filt.Same(again, f) || e != api.OK {
		t.Errorf("Decode of 200: %d", e)
	}
	checkRight(t, f)
}

// P9.1, P9.2: a right filter has a tree, though that has more bytes than a tree may have.
func TestAsManyBytesAsATreeMayHave(t *testing.T) {
	long := equal(letters(20)+";"+letters(9), strings.Repeat("\xff", 60)) // 96 bytes
	row := of(api.And, slices.Repeat([]api.Filter{long}, 8)...)
	sizes := map[int]bool{}
	for short := range 61 {
		f := of(api.Or, row, row, row, row, row, equal("a", letters(60)), equal("a", letters(short)), present("a"))
		n, e := fber.Tree(f)
		if !tlv.Same(n, plainTree(f)) || e != api.OK {
			t.Fatalf("Tree = .., %d", e)
		}
		size := measure(n)
		sizes[size] = true
		s, e := fber.Encode(f)
		if size <= 4000 && (len(s) != size || e != api.OK) || size > 4000 && (s != "" || e != api.ErrFilter) {
			t.Errorf("of %d bytes: %d, %d", size, len(s), e)
		}
		checkRight(t, f)
	}
	if !sizes[4000] || !sizes[4001] {
		t.Errorf("sizes %v", sizes)
	}
}

// measure says plainly how many bytes a tree has.
func measure(n api.Node) int {
	body := len(n.Data)
	for _, kid := range n.Kids {
		body += measure(kid)
	}
	switch {
	case body < 128:
		return 2 + body
	case body < 256:
		return 3 + body
	}
	return 4 + body
}

// P9.1
func TestTheGreatestFilter(t *testing.T) {
	f := subs(letters(20)+";"+letters(9), strings.Repeat("\xff", 60), letters(60), letters(60), "1", "2", "3")
	for i := range 5 {
		f = of(i%2, slices.Repeat([]api.Filter{f}, 8)...)
	}
	checkRight(t, f)
}

// A list that is in itself has no end, but what is too deep is known early.
func TestATreeInItself(t *testing.T) {
	for _, tag := range []int{4, 0x30, 0x87, 0xa0, 0xa1, 0xa2, 0xa3, 0xa4} {
		for n := range 9 {
			kids := make([]api.Node, n)
			for i := range kids {
				kids[i] = inner(tag, kids...)
			}
			if f, e := fber.Read(inner(tag, kids...)); !reflect.DeepEqual(f, api.Filter{}) || e != api.ErrFilter {
				t.Errorf("tag %x of %d: %v, %d", tag, n, f, e)
			}
		}
	}
	for _, kind := range []int{api.And, api.Or, api.Not} {
		l := make([]api.Filter, 1)
		l[0] = of(kind, l...)
		if n, e := fber.Tree(l[0]); !reflect.DeepEqual(n, api.Node{}) || e != api.ErrFilter {
			t.Errorf("kind %d: %v, %d", kind, n, e)
		}
		if s, e := fber.Encode(l[0]); s != "" || e != api.ErrFilter {
			t.Errorf("kind %d: %x, %d", kind, s, e)
		}
	}
}

const shared = `(&(a=1*2*3*4)(|(b=*5*6*)(c=x*)(d>=7))(e=*f)(&(g=1*2)(h=3*4*5))(!(i=*j*)))`

// spoilTree writes into all spare room of a tree's lists, and into the lists themselves.
func spoilTree(n api.Node) {
	for _, kid := range n.Kids {
		spoilTree(kid)
	}
	all := n.Kids[:cap(n.Kids)]
	for i := range all {
		all[i] = leaf(99, "spoilt")
	}
}

// R3: what is answered is new memory, spare room too.
func TestTreesShareNothing(t *testing.T) {
	f, want := parse(t, shared), plainTree(parse(t, shared))
	for i := range want.Kids {
		n, _ := fber.Tree(f)
		spoilTree(n.Kids[i])
		for j := range want.Kids {
			if j != i && !tlv.Same(n.Kids[j], want.Kids[j]) {
				t.Errorf("tree %d is written into through tree %d", j, i)
			}
		}
		spoilTree(n)
	}
	if again, e := fber.Tree(f); !tlv.Same(again, want) || e != api.OK || !filt.Same(f, parse(t, shared)) {
		t.Error("an answer is kept, or shares with the argument")
	}
}

// spoilFilter writes into all spare room of a filter's lists, and into the lists themselves.
func spoilFilter(f api.Filter) {
	for _, one := range f.L {
		spoilFilter(one)
	}
	all := f.Any[:cap(f.Any)]
	for i := range all {
		all[i] = "spoilt"
	}
	in := f.L[:cap(f.L)]
	for i := range in {
		in[i] = equal("spoilt", "spoilt")
	}
}

// R3: what is answered is new memory, spare room too.
func TestFiltersShareNothing(t *testing.T) {
	want := parse(t, shared)
	n := plainTree(want)
	s, _ := fber.Encode(want)
	for _, call := range []func() (api.Filter, api.Errno){
		func() (api.Filter, api.Errno) { return fber.Read(n) },
		func() (api.Filter, api.Errno) { return fber.Decode(s) },
	} {
		for i := range want.L {
			f, _ := call()
			spoilFilter(f.L[i])
			for j := range want.L {
				if j != i && !filt.Same(f.L[j], want.L[j]) {
					t.Errorf("filter %d is written into through filter %d", j, i)
				}
			}
			spoilFilter(f)
		}
		if again, e := call(); !filt.Same(again, want) || e != api.OK || !tlv.Same(n, plainTree(want)) {
			t.Error("an answer is kept, or shares with the argument")
		}
	}
}

// R3: what is handed in is not written into, nor its spare room.
func TestArgumentsStay(t *testing.T) {
	filter := func() api.Filter {
		l := []api.Filter{subs("a", "x", "y", []string{"1", "2", "3"}[:2]...), equal("b", "c"), equal("z", "z")}
		return of(api.And, l[:2]...)
	}
	tree := func() api.Node {
		pieces := []api.Node{leaf(0x81, "x"), leaf(0x82, "y"), leaf(99, "spare")}
		l := []api.Node{leaf(0x87, "a"), inner(0xa4, leaf(4, "a"), inner(0x30, pieces[:2]...)), leaf(99, "spare")}
		return inner(0xa1, l[:2]...)
	}
	f, n := filter(), tree()
	fber.Tree(f)
	fber.Encode(f)
	if _, e := fber.Read(n); e != api.OK {
		t.Error(e)
	}
	if !filt.Same(of(0, f.L[:3]...), of(0, filter().L[:3]...)) || f.L[0].Any[:3][2] != "3" {
		t.Error("a filter is changed")
	}
	if !tlv.Same(inner(0, n.Kids[:3]...), inner(0, tree().Kids[:3]...)) || n.Kids[1].Kids[1].Kids[:3][2].Tag != 99 {
		t.Error("a tree is changed")
	}
}

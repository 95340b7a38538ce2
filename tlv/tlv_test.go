package tlv_test

import (
	"math"
	"reflect"
	"strings"
	"testing"

	"latiner/api"
	"latiner/tlv"
)

func leaf(tag int, data string) api.Node { return api.Node{Tag: tag, Data: data} }

func inner(tag int, kids ...api.Node) api.Node { return api.Node{Tag: tag, Kids: kids} }

func letters(n int) string { return strings.Repeat("a", n) }

// deep is a tree so deep, the last one of that tag.
func deep(n int, last int) api.Node {
	x := api.Node{Tag: last}
	for range n - 1 {
		x = inner(0x30, x)
	}
	return x
}

// wide has so many trees in all, beside one another.
func wide(n int) api.Node {
	x := api.Node{Tag: 0x31}
	for range n - 1 {
		x.Kids = append(x.Kids, leaf(5, ""))
	}
	return x
}

// scattered has so many trees in all, at two depths: each that is in it has up to nine in it.
func scattered(n int) api.Node {
	x := api.Node{Tag: 0x30}
	for left := n - 1; left > 0; {
		kid := api.Node{Tag: 0xa0}
		for left--; left > 0 && len(kid.Kids) < 9; left-- {
			kid.Kids = append(kid.Kids, leaf(4, ""))
		}
		x.Kids = append(x.Kids, kid)
	}
	return x
}

// rightTrees are right, beside their bytes.
func rightTrees() map[string]api.Node {
	return map[string]api.Node{
		"\x00\x00":                                 leaf(0, ""),
		"\x05\x00":                                 leaf(5, ""),
		"\x02\x01\x05":                             leaf(2, "\x05"),
		"\x04\x02hi":                               leaf(4, "hi"),
		"\x1e\x02\x00\xff":                         leaf(30, "\x00\xff"),
		"\xde\x01x":                                leaf(0xde, "x"),
		"\x20\x00":                                 inner(0x20),
		"\x30\x00":                                 {Tag: 0x30, Kids: []api.Node{}},
		"\x3e\x00":                                 inner(0x3e),
		"\xfe\x00":                                 inner(0xfe),
		"\x04\x01z":                                {Tag: 4, Data: "z", Kids: []api.Node{}},
		"\x30\x07\x02\x01\x05\x04\x02hi":           inner(0x30, leaf(2, "\x05"), leaf(4, "hi")),
		"\x30\x07\x04\x02hi\x02\x01\x05":           inner(0x30, leaf(4, "hi"), leaf(2, "\x05")),
		"\xa3\x06\x31\x02\x0a\x00\x05\x00":         inner(0xa3, inner(0x31, leaf(10, "")), leaf(5, "")),
		"\x30\x06\x30\x02\x30\x00\x31\x00":         inner(0x30, inner(0x30, inner(0x30)), inner(0x31)),
		"\x04\x7f" + letters(127):                  leaf(4, letters(127)),
		"\x04\x81\x80" + letters(128):              leaf(4, letters(128)),
		"\x30\x81\x80\x04\x7e" + letters(126):      inner(0x30, leaf(4, letters(126))),
		"\x04\x82\x01\x2c" + letters(300):          leaf(4, letters(300)),
		"\x04\x82\x0f\x9c" + letters(3996):         leaf(4, letters(3996)),
		"\x31\x0a" + strings.Repeat("\x05\x00", 5): wide(6),
	}
}

// edgeTrees are right, and just so.
func edgeTrees() map[string]api.Node {
	return map[string]api.Node{
		"12 deep":              deep(12, 5),
		"12 deep, inner":       deep(12, 0x30),
		"12 deep, second":      inner(0x30, leaf(5, ""), deep(11, 5)),
		"200 trees":            wide(200),
		"200 trees, scattered": scattered(200),
		"4000 bytes":           leaf(4, letters(3996)),
		"4000 bytes, inner":    inner(0x30, leaf(4, letters(3992))),
		"4000 bytes, heads":    inner(0x30, leaf(4, letters(1990)), leaf(4, letters(1998))),
	}
}

// wrongTrees are not right, each for one cause.
func wrongTrees() map[string]api.Node {
	return map[string]api.Node{
		"tag -1":                leaf(-1, ""),
		"tag below all":         leaf(math.MinInt, ""),
		"tag -256, bits of 0":   leaf(-256, ""),
		"tag 256":               leaf(256, ""),
		"tag 257":               leaf(257, "a"),
		"tag 256 and Inner":     inner(256 + 0x30),
		"tag above all":         leaf(math.MaxInt-1-api.Inner, ""),
		"lower bits 31":         leaf(31, ""),
		"lower bits 31, inner":  inner(0x3f),
		"lower bits 31, 9f":     leaf(0x9f, "a"),
		"tag 255":               inner(255),
		"inner with Data":       leaf(0x30, "a"),
		"inner with both":       {Tag: 0x30, Data: "a", Kids: []api.Node{{Tag: 5}}},
		"Data and Kids":         {Tag: 4, Data: "a", Kids: []api.Node{{Tag: 5}}},
		"Kids of no inner one":  inner(4, leaf(5, "")),
		"wrong tag in it":       inner(0x30, leaf(5, ""), leaf(31, "")),
		"tag 256 in it":         inner(0x30, leaf(256, ""), leaf(5, "")),
		"wrong kind deep in it": inner(0x30, inner(0x30, leaf(0x31, "a"))),
		"Kids of none deep":     inner(0x30, inner(0xa0, inner(0x84, leaf(5, "")))),
		"13 deep":               deep(13, 5),
		"13 deep, inner":        deep(13, 0x30),
		"13 deep, second":       inner(0x30, leaf(5, ""), deep(12, 5)),
		"60000 deep":            deep(60000, 5),
		"201 trees":             wide(201),
		"201 trees, scattered":  scattered(201),
		"100000 trees":          wide(100000),
		"4001 bytes":            leaf(4, letters(3997)),
		"4001 bytes, inner":     inner(0x30, leaf(4, letters(3993))),
		"4001 bytes, heads":     inner(0x30, leaf(4, letters(1990)), leaf(4, letters(1999))),
		"4000 of data":          leaf(4, letters(4000)),
		"4001 of data":          leaf(4, letters(4001)),
		"much data":             leaf(4, letters(100000)),
		"more than a length":    leaf(4, letters(api.MaxSize+1)),
		"more in two":           inner(0x30, leaf(4, letters(3000)), leaf(4, letters(3000))),
	}
}

// P2.1
func TestRightTreesHaveBytes(t *testing.T) {
	for want, x := range rightTrees() {
		if !tlv.Right(x) {
			t.Errorf("not right: %.20x", want)
		}
		if s, e := tlv.Encode(x); s != want || e != api.OK {
			t.Errorf("Encode = %.20x, %d; want %.20x", s, e, want)
		}
	}
	for name, x := range edgeTrees() {
		if s, e := tlv.Encode(x); !tlv.Right(x) || e != api.OK || s != plainBytes(x) {
			t.Errorf("%s: %.20x, %d", name, s, e)
		}
	}
}

// P2.1
func TestWrongTreesAreRefused(t *testing.T) {
	for name, x := range wrongTrees() {
		if tlv.Right(x) {
			t.Errorf("%s: right", name)
		}
		if s, e := tlv.Encode(x); s != "" || e != api.ErrNode {
			t.Errorf("%s: Encode = %.20x, %d; want ErrNode", name, s, e)
		}
	}
}

// P2.1
func TestEveryTag(t *testing.T) {
	for tag := -600; tag <= 600; tag++ {
		want := tag >= 0 && tag <= 255 && tag&31 != 31
		if tlv.Right(leaf(tag, "")) != want {
			t.Errorf("tag %d: right is %v", tag, !want)
		}
		if tlv.Right(leaf(tag, "a")) != (want && tag&32 == 0) {
			t.Errorf("tag %d with Data", tag)
		}
		if tlv.Right(inner(tag, leaf(5, ""))) != (want && tag&32 != 0) {
			t.Errorf("tag %d with a kid", tag)
		}
	}
}

// P2.1: the heads count, and they grow with what they tell.
func TestBytesUpToTheBound(t *testing.T) {
	for first := 0; first <= 400; first++ {
		for _, all := range []int{3999, 4000, 4001} {
			x := inner(0x30, leaf(4, letters(first)), leaf(4, ""))
			x.Kids[1].Data = letters(all - 4 - len(plainBytes(x.Kids[0])) - 4)
			if n := len(plainBytes(x)); n != all {
				t.Fatalf("the test's tree has %d bytes, not %d", n, all)
			}
			if tlv.Right(x) != (all <= 4000) {
				t.Errorf("%d bytes, %d in the first: right is %v", all, first, all > 4000)
			}
		}
	}
}

// P2.1
func TestSame(t *testing.T) {
	both := inner(0x30, leaf(2, "\x05"), inner(0x31, leaf(4, "hi")))
	for i, c := range []struct {
		a, b api.Node
		same bool
	}{
		{both, inner(0x30, leaf(2, "\x05"), inner(0x31, leaf(4, "hi"))), true},
		{both, inner(0x31, leaf(2, "\x05"), inner(0x31, leaf(4, "hi"))), false},
		{both, inner(0x30, leaf(2, "\x06"), inner(0x31, leaf(4, "hi"))), false},
		{both, inner(0x30, leaf(2, "\x05"), inner(0x31, leaf(5, "hi"))), false},
		{both, inner(0x30, leaf(2, "\x05"), inner(0x31, leaf(4, "ho"))), false},
		{both, inner(0x30, leaf(2, "\x05"), inner(0x31)), false},
		{both, inner(0x30, leaf(2, "\x05")), false},
		{both, inner(0x30, inner(0x31, leaf(4, "hi")), leaf(2, "\x05")), false},
		{both, inner(0x30, leaf(2, "\x05"), inner(0x31, leaf(4, "hi")), leaf(5, "")), false},
		{api.Node{}, api.Node{}, true},
		{api.Node{Tag: 0x30}, api.Node{Tag: 0x30, Kids: []api.Node{}}, true},
		{leaf(-5, ""), leaf(-5, ""), true},
		{leaf(-5, ""), leaf(-4, ""), false},
		{leaf(4, ""), leaf(260, ""), false},
		{leaf(0x30, "a"), leaf(0x30, "a"), true},
		{leaf(0x30, "a"), leaf(0x30, ""), false},
		{inner(4, leaf(99, "x")), inner(4, leaf(99, "x")), true},
		{inner(4, leaf(99, "x")), leaf(4, ""), false},
		{deep(20, 5), deep(20, 5), true},
		{deep(20, 5), deep(21, 5), false},
		{deep(20, 5), deep(20, 4), false},
		{deep(60000, 5), deep(60000, 5), true},
		{wide(1000), wide(1000), true},
		{wide(1000), wide(1001), false},
	} {
		if tlv.Same(c.a, c.b) != c.same || tlv.Same(c.b, c.a) != c.same {
			t.Errorf("%d: Same is %v", i, !c.same)
		}
	}
}

// P2.2
func TestDecodeTellsTrees(t *testing.T) {
	for _, c := range []struct {
		s      string
		at     int
		tree   api.Node
		behind int
	}{
		{"\x05\x00", 0, leaf(5, ""), 2},
		{"\x05\x00\xff", 0, leaf(5, ""), 2},
		{"\x1f\x04\x02hi\x1f", 1, leaf(4, "hi"), 5},
		{"\x30\x04\x04\x02hi", 0, inner(0x30, leaf(4, "hi")), 6},
		{"\x30\x04\x04\x02hi", 2, leaf(4, "hi"), 6},
		{"\x30\x00\x05\x00", 0, inner(0x30), 2},
		{"\x1e\x00", 0, leaf(30, ""), 2},
		{"\xfe\x02\xde\x00", 0, inner(0xfe, leaf(0xde, "")), 4},
		// Lengths that are not least.
		{"\x05\x81\x00", 0, leaf(5, ""), 3},
		{"\x04\x81\x01a", 0, leaf(4, "a"), 4},
		{"\x04\x84\x00\x00\x00\x01a", 0, leaf(4, "a"), 7},
		{"\x30\x82\x00\x04\x04\x81\x01a", 0, inner(0x30, leaf(4, "a")), 8},
		// Data that look like trees stay data.
		{"\x04\x02\x05\x00", 0, leaf(4, "\x05\x00"), 4},
	} {
		x, behind, e := tlv.Decode(c.s, c.at)
		if !tlv.Same(x, c.tree) || behind != c.behind || e != api.OK {
			t.Errorf("Decode(%x, %d) = %v, %d, %d; want %v, %d", c.s, c.at, x, behind, e, c.tree, c.behind)
		}
	}
}

// P2.2
func TestDecodeTellsErrors(t *testing.T) {
	for _, c := range []struct {
		s  string
		at int
		e  api.Errno
	}{
		// No place, and no byte there.
		{"\x05\x00", -1, api.ErrShort},
		{"\x05\x00", math.MinInt, api.ErrShort},
		{"\x05\x00", 2, api.ErrShort},
		{"\x05\x00", 3, api.ErrShort},
		{"\x05\x00", math.MaxInt, api.ErrShort},
		{"", 0, api.ErrShort},
		{"", 1, api.ErrShort},
		{"", -1, api.ErrShort},
		// The tag is asked ahead of the length.
		{"\x1f", 0, api.ErrTag},
		{"\x1f\x00", 0, api.ErrTag},
		{"\x3f\x80", 0, api.ErrTag},
		{"\xff\x84\xff\xff\xff\xff", 0, api.ErrTag},
		{"\x05\x00\x9f", 2, api.ErrTag},
		{"\x30\x02\x1f\x00", 0, api.ErrTag},
		{"\x30\x03\x05\x00\x1f", 0, api.ErrTag},
		// The length's errors.
		{"\x04", 0, api.ErrShort},
		{"\x04\x81", 0, api.ErrShort},
		{"\x04\x82\x01", 0, api.ErrShort},
		{"\x04\x80", 0, api.ErrForm},
		{"\x30\x80\x00\x00", 0, api.ErrForm},
		{"\x04\x85\x00\x00\x00\x00\x00", 0, api.ErrForm},
		{"\x04\x84\x01\x00\x00\x00", 0, api.ErrSize},
		{"\x30\x02\x04\x80", 0, api.ErrForm},
		{"\x30\x06\x04\x84\x01\x00\x00\x00", 0, api.ErrSize},
		// Too few bytes.
		{"\x04\x01", 0, api.ErrShort},
		{"\x04\x02a", 0, api.ErrShort},
		{"\x04\x83\xff\xff\xffa", 0, api.ErrShort},
		{"\x30\x04\x05\x00", 0, api.ErrShort},
		{"\x30\x04\x04\x02hi", 1, api.ErrShort},
		// What is missing is told ahead of what is wrong in the body.
		{"\x30\x04\x1f\x00", 0, api.ErrShort},
		// Within the body its end is the end, though bytes stand behind it.
		{"\x30\x01\x04\x00", 0, api.ErrShort},
		{"\x30\x03\x04\x02aa", 0, api.ErrShort},
		{"\x30\x02\x04\x01a", 0, api.ErrShort},
		{"\x30\x02\x04\x81\x00", 0, api.ErrShort},
		{"\x30\x03\x04\x82\x00\x00", 0, api.ErrShort},
		{"\x30\x02\x04\x84\x01\x00\x00\x00", 0, api.ErrShort},
		{"\x30\x05\x30\x02\x04\x02aa", 0, api.ErrShort},
		// The first of two that are wrong.
		{"\x30\x04\x1f\x00\x04\x80", 0, api.ErrTag},
		{"\x30\x04\x04\x80\x1f\x00", 0, api.ErrForm},
		{"\x30\x06\x30\x02\x04\x80\x1f\x00", 0, api.ErrForm},
		// Too many bytes.
		{"\x04\x82\x0f\x9d" + letters(3997), 0, api.ErrNode},
		{"\x04\x82\x0f\x9d" + letters(3998), 0, api.ErrNode},
		{"\x04\x82\x0f\x9d" + letters(3996), 0, api.ErrShort},
		{"\x04\x83\x01\x00\x00" + letters(65536), 0, api.ErrNode},
		{"\x30\x82\x0f\x9d\x04\x82\x0f\x99" + letters(3993), 0, api.ErrNode},
	} {
		x, behind, e := tlv.Decode(c.s, c.at)
		if !reflect.DeepEqual(x, api.Node{}) || behind != 0 || e != c.e {
			t.Errorf("Decode(%.20x, %d) = %v, %d, %d; want error %d", c.s, c.at, x, behind, e, c.e)
		}
	}
}

// P2.2: the bound is on the least bytes, not on those that are read.
func TestDecodeMeasuresLeastBytes(t *testing.T) {
	for n, want := range map[int]api.Errno{3995: api.OK, 3996: api.OK, 3997: api.ErrNode} {
		s := "\x04\x84\x00\x00" + string([]byte{byte(n >> 8), byte(n)}) + letters(n)
		x, behind, e := tlv.Decode(s, 0)
		if e != want || (e == api.OK) != (len(x.Data) == n && behind == len(s)) {
			t.Errorf("%d bytes of data: %d, %d", n, behind, e)
		}
	}
}

// P2.2: what is too deep, or one too many, is told ahead of all else that is wrong with it.
func TestDecodeCountsFirst(t *testing.T) {
	nest := func(n int, last string) string {
		for range n {
			last = "\x30" + string([]byte{byte(len(last))}) + last
		}
		return last
	}
	row := func(n int, last string) string {
		body := strings.Repeat("\x05\x00", n) + last
		return "\x30\x82" + string([]byte{byte(len(body) >> 8), byte(len(body))}) + body
	}
	for _, c := range []struct {
		name string
		s    string
		e    api.Errno
	}{
		{"12 deep", nest(11, "\x05\x00"), api.OK},
		{"12 deep, inner", nest(12, ""), api.OK},
		{"13 deep", nest(12, "\x05\x00"), api.ErrNode},
		{"13 deep, inner", nest(13, ""), api.ErrNode},
		{"12 deep, a tag", nest(11, "\x1f\x00"), api.ErrTag},
		{"13 deep, a tag", nest(12, "\x1f\x00"), api.ErrNode},
		{"12 deep, a length", nest(11, "\x05\x80"), api.ErrForm},
		{"13 deep, a length", nest(12, "\x05\x80"), api.ErrNode},
		{"13 deep, one byte", nest(12, "\x05"), api.ErrNode},
		{"50 deep", nest(50, "\x05\x00"), api.ErrNode},
		{"200 trees", row(199, ""), api.OK},
		{"201 trees", row(200, ""), api.ErrNode},
		{"200 trees, a tag", row(198, "\x1f\x00"), api.ErrTag},
		{"201 trees, a tag", row(199, "\x1f\x00"), api.ErrNode},
		{"200 trees, a length", row(198, "\x05\x85"), api.ErrForm},
		{"201 trees, a length", row(199, "\x05\x85"), api.ErrNode},
		{"201 trees, one byte", row(199, "\x05"), api.ErrNode},
		{"a tag ahead of the 201st", row(100, "\x1f\x00"+strings.Repeat("\x05\x00", 200)), api.ErrTag},
	} {
		x, behind, e := tlv.Decode(c.s, 0)
		if e != c.e || (e == api.OK) != (behind == len(c.s)) || (e == api.OK) != (x.Tag == 0x30) {
			t.Errorf("%s: %d, %d; want %d", c.name, behind, e, c.e)
		}
	}
	s, _ := tlv.Encode(scattered(200))
	if x, e := tlv.Whole(s); e != api.OK || !tlv.Same(x, scattered(200)) {
		t.Errorf("200 trees, scattered: %d", e)
	}
	if _, e := tlv.Whole(plainBytes(scattered(201))); e != api.ErrNode {
		t.Errorf("201 trees, scattered: %d", e)
	}
	if _, _, e := tlv.Decode("\x05\x00"+row(199, ""), 2); e != api.OK {
		t.Errorf("200 trees behind another: %d", e)
	}
}

// P2.2
func TestWhole(t *testing.T) {
	for s, x := range rightTrees() {
		if y, e := tlv.Whole(s); e != api.OK || !tlv.Same(x, y) {
			t.Errorf("Whole(%.20x) = %v, %d", s, y, e)
		}
	}
	for s, want := range map[string]api.Errno{
		"":                                 api.ErrShort,
		"\x05":                             api.ErrShort,
		"\x05\x00\x00":                     api.ErrForm,
		"\x05\x00\x05\x00":                 api.ErrForm,
		"\x30\x00\x1f":                     api.ErrForm,
		"\x30\x02\x05\x00\x05\x00":         api.ErrForm,
		"\x1f\x00\x00":                     api.ErrTag,
		"\x04\x84\x01\x00\x00\x00\x00":     api.ErrSize,
		"\x30\x01\x05\x00":                 api.ErrShort,
		"\x04\x82\x0f\x9d" + letters(3998): api.ErrNode, // ahead of what stands behind
		"\x04\x82\x0f\x9c" + letters(3997): api.ErrForm,
	} {
		if x, e := tlv.Whole(s); e != want || !reflect.DeepEqual(x, api.Node{}) {
			t.Errorf("Whole(%.20x) = %v, %d; want %d", s, x, e, want)
		}
	}
}

// P2.3
func TestTreesComeBackFromTheirBytes(t *testing.T) {
	trees := edgeTrees()
	for s, x := range rightTrees() {
		trees[s] = x
	}
	for name, x := range trees {
		s, _ := tlv.Encode(x)
		for _, behind := range []string{"", "\x00", "\x1f", "\xff\xff", s} {
			y, at, e := tlv.Decode("\x30\x1f"+s+behind, 2)
			if e != api.OK || at != 2+len(s) || !tlv.Same(x, y) || !tlv.Right(y) {
				t.Errorf("%.20x, behind it %.20x: %d, %d", name, behind, at, e)
			}
		}
	}
}

// P2.2, P2.3: every short text of bytes that begin something, held against the document's words.
func TestEveryShortText(t *testing.T) {
	const alphabet = "\x00\x01\x02\x03\x05\x1f\x30\x80\x81\x84"
	var look func(s string)
	look = func(s string) {
		want, e := plainRead(s, 1)
		x, behind, f := tlv.Decode(s, 0)
		if e != f || e != api.OK && (behind != 0 || !reflect.DeepEqual(x, api.Node{})) {
			t.Fatalf("Decode(%x, 0) = %v, %d, %d; want %d", s, x, behind, f, e)
		}
		if e == api.OK {
			u, g := tlv.Encode(x)
			y, h := tlv.Whole(u)
			if !tlv.Same(x, want.tree) || behind != len(s)-len(want.rest) || !tlv.Right(x) || g != api.OK || h != api.OK || !tlv.Same(x, y) {
				t.Fatalf("Decode(%x, 0) = %v, %d; bytes %x", s, x, behind, u)
			}
		}
		if len(s) == 6 {
			return
		}
		for i := range len(alphabet) {
			look(s + alphabet[i:i+1])
		}
	}
	look("")
}

// R3: no two answers, and no two lists of one, share memory.
func TestAnswersShareNothing(t *testing.T) {
	s := "\x30\x0c\x30\x04\x05\x00\x05\x00\x30\x04\x05\x00\x05\x00"
	a, _ := tlv.Whole(s)
	b, _ := tlv.Whole(s)
	a.Kids[0].Kids = append(a.Kids[0].Kids, leaf(9, "new"))
	a.Kids[0].Kids[1].Tag = 7
	if want, _ := tlv.Whole(s); !tlv.Same(b, want) || !tlv.Same(a.Kids[1], want.Kids[1]) {
		t.Error("a change of one list is seen in another")
	}
}

// R3: what is handed in is left as it is, its spare room too.
func TestArgumentsAreLeft(t *testing.T) {
	room := []api.Node{leaf(2, "\x05"), leaf(4, "hi"), leaf(77, "spare")}
	x := api.Node{Tag: 0x30, Kids: room[:2]}
	tlv.Right(x)
	tlv.Encode(x)
	tlv.Same(x, x)
	if !reflect.DeepEqual(room, []api.Node{leaf(2, "\x05"), leaf(4, "hi"), leaf(77, "spare")}) {
		t.Errorf("changed: %v", room)
	}
}

// plainBytes are any tree's bytes, by the document's words, of bodies below 65536 bytes.
func plainBytes(n api.Node) string {
	body := n.Data
	for _, kid := range n.Kids {
		body += plainBytes(kid)
	}
	told := []byte{byte(n.Tag), byte(len(body))}
	switch k := len(body); {
	case k >= 256:
		told = []byte{byte(n.Tag), 0x82, byte(k >> 8), byte(k)}
	case k >= 128:
		told = []byte{byte(n.Tag), 0x81, byte(k)}
	}
	return string(told) + body
}

type plainTree struct {
	tree api.Node
	rest string
}

// plainRead reads a tree that the text begins with; its texts are too short for the bounds but that of depth.
func plainRead(s string, deep int) (plainTree, api.Errno) {
	if deep > 12 {
		return plainTree{}, api.ErrNode
	}
	if s == "" {
		return plainTree{}, api.ErrShort
	}
	x := api.Node{Tag: int(s[0])}
	if x.Tag%32 == 31 {
		return plainTree{}, api.ErrTag
	}
	n, rest, e := plainLength(s[1:])
	if e != api.OK {
		return plainTree{}, e
	}
	if n > len(rest) {
		return plainTree{}, api.ErrShort
	}
	body, rest := rest[:n], rest[n:]
	if x.Tag/32%2 == 0 {
		x.Data = body
		return plainTree{x, rest}, api.OK
	}
	for body != "" {
		kid, e := plainRead(body, deep+1)
		if e != api.OK {
			return plainTree{}, e
		}
		x.Kids, body = append(x.Kids, kid.tree), kid.rest
	}
	return plainTree{x, rest}, api.OK
}

func plainLength(s string) (int, string, api.Errno) {
	if s == "" {
		return 0, "", api.ErrShort
	}
	first := int(s[0])
	if first < 0x80 {
		return first, s[1:], api.OK
	}
	if first == 0x80 || first > 0x84 {
		return 0, "", api.ErrForm
	}
	count := first - 0x80
	if len(s) < 1+count {
		return 0, "", api.ErrShort
	}
	n := 0
	for i := 1; i <= count; i++ {
		n = n*256 + int(s[i])
	}
	if n > 16777215 {
		return 0, "", api.ErrSize
	}
	return n, s[1+count:], api.OK
}

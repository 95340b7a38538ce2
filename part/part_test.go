package part_test

import (
	"encoding/hex"
	"fmt"
	"math/rand"
	"reflect"
	"regexp"
	"slices"
	"strings"
	"testing"
	"unicode/utf8"

	"latiner/api"
	"latiner/dn"
	"latiner/filt"
	"latiner/part"
	"latiner/tlv"
)

func letters(n int) string { return strings.Repeat("a", n) }

func leaf(tag int, data string) api.Node { return api.Node{Tag: tag, Data: data} }

func inner(tag int, kids ...api.Node) api.Node { return api.Node{Tag: tag, Kids: kids} }

func text(s string) api.Node { return leaf(4, s) }

func texts(tag int, l ...string) api.Node {
	n := inner(tag)
	for _, s := range l {
		n.Kids = append(n.Kids, text(s))
	}
	return n
}

func attr(name string, values ...string) api.Attr { return api.Attr{Name: name, Values: values} }

// brief is what is told of anything, however great it is.
func brief(what any) string { return fmt.Sprintf("%.400s", fmt.Sprintf("%#v", what)) }

// A second telling of the chapter's words, as plain as can be.

var oidForm = regexp.MustCompile(`^(0|[1-9][0-9]*)(\.(0|[1-9][0-9]*))+$`)

var nameForm = regexp.MustCompile(`^([A-Za-z][A-Za-z0-9-]*|(0|[1-9][0-9]*)(\.(0|[1-9][0-9]*))+)(;[A-Za-z0-9-]+)*$`)

func plainOid(s string) bool { return len(s) <= 20 && oidForm.MatchString(s) }

func plainName(s string) bool {
	kind, _, _ := strings.Cut(s, ";")
	return len(s) <= 30 && len(kind) <= 20 && nameForm.MatchString(s)
}

func plainDn(s string) bool {
	d, e := dn.Parse(s)
	return len(s) <= 200 && e == api.OK && (len(d) > 0) == (s != "")
}

func plainByte(n int) string {
	if n > 127 {
		return string([]byte{0, byte(n)})
	}
	return string([]byte{byte(n)})
}

// plainControl is a control's tree, if the control is right.
func plainControl(c api.Control) (api.Node, bool) {
	n := texts(0x30, c.Oid)
	if c.Critical {
		n.Kids = append(n.Kids, leaf(1, "\xff"))
	}
	if c.Has {
		n.Kids = append(n.Kids, text(c.Value))
	}
	return n, plainOid(c.Oid) && len(c.Value) <= 200 && (c.Has || c.Value == "")
}

// plainAttr is an attribute's tree, if the attribute is right.
func plainAttr(a api.Attr, least int) (api.Node, bool) {
	right := (least == 0 || least == 1) && plainName(a.Name) && len(a.Values) >= least && len(a.Values) <= 6
	for _, value := range a.Values {
		right = right && len(value) <= 200
	}
	return inner(0x30, text(a.Name), texts(0x31, a.Values...)), right
}

// plainChange is a change's tree, if the change is right.
func plainChange(c api.Change) (api.Node, bool) {
	least := map[int]int{0: 1, 1: 0, 2: 0}
	n, right := plainAttr(c.Attr, least[c.Kind])
	if c.Kind < 0 || c.Kind > 2 {
		return n, false
	}
	return inner(0x30, leaf(10, plainByte(c.Kind)), n), right
}

// plainResult are a result's trees, if the result is right.
func plainResult(r api.Result) ([]api.Node, bool) {
	right := r.Code >= 0 && r.Code <= 200 && plainDn(r.Dn) && len(r.Text) <= 60 && utf8.ValidString(r.Text)
	l := []api.Node{leaf(10, plainByte(r.Code)), text(r.Dn), text(r.Text)}
	if len(r.Refs) > 0 {
		l = append(l, texts(0xa3, r.Refs...))
	}
	for _, s := range r.Refs {
		right = right && s != "" && len(s) <= 60 && utf8.ValidString(s)
	}
	if r.Code == 10 {
		return l, right && len(r.Refs) >= 1 && len(r.Refs) <= 3
	}
	return l, right && len(r.Refs) == 0
}

func data(kids []api.Node, at int) string {
	if at < len(kids) {
		return kids[at].Data
	}
	return ""
}

func kids(kids []api.Node, at int) []api.Node {
	if at < len(kids) {
		return kids[at].Kids
	}
	return nil
}

func datas(kids []api.Node) []string {
	var l []string
	for _, kid := range kids {
		l = append(l, kid.Data)
	}
	return l
}

// guessControl is the only control whose tree one may be, if it is one's.
func guessControl(n api.Node) (api.Control, bool) {
	n.Kids = slices.Clone(n.Kids)
	c := api.Control{Oid: data(n.Kids, 0)}
	behind := 1
	if len(n.Kids) > 1 && n.Kids[1].Tag == 1 {
		c.Critical = true
		if len(n.Kids[1].Data) == 1 && n.Kids[1].Data != "\x00" {
			n.Kids[1].Data = "\xff"
		}
		behind = 2
	}
	c.Value, c.Has = data(n.Kids, behind), behind < len(n.Kids)
	tree, right := plainControl(c)
	return c, right && tlv.Same(tree, n)
}

func guessAttr(n api.Node, least int) (api.Attr, bool) {
	a := attr(data(n.Kids, 0), datas(kids(n.Kids, 1))...)
	tree, right := plainAttr(a, least)
	return a, right && tlv.Same(tree, n)
}

func guessChange(n api.Node) (api.Change, bool) {
	for kind := range 3 {
		c := api.Change{Kind: kind}
		if len(n.Kids) > 1 {
			c.Attr, _ = guessAttr(n.Kids[1], 0)
		}
		if tree, right := plainChange(c); right && tlv.Same(tree, n) {
			return c, true
		}
	}
	return api.Change{}, false
}

func guessResult(l []api.Node) (api.Result, bool) {
	for code := range 201 {
		if plainByte(code) != data(l, 0) {
			continue
		}
		r := api.Result{Code: code, Dn: data(l, 1), Text: data(l, 2), Refs: datas(kids(l, 3))}
		if trees, right := plainResult(r); right && slices.EqualFunc(trees, l, tlv.Same) {
			return r, true
		}
	}
	return api.Result{}, false
}

func sameAttr(a, b api.Attr) bool { return a.Name == b.Name && slices.Equal(a.Values, b.Values) }

func sameChange(a, b api.Change) bool { return a.Kind == b.Kind && sameAttr(a.Attr, b.Attr) }

func sameResult(a, b api.Result) bool {
	return a.Code == b.Code && a.Dn == b.Dn && a.Text == b.Text && slices.Equal(a.Refs, b.Refs)
}

// check holds an answer against what is wanted, or ErrPart beside nothing.
func check[T any](t *testing.T, same func(a, b T) bool, of any, got T, e api.Errno, want T, ok bool) {
	t.Helper()
	var none T
	if !ok && (!reflect.DeepEqual(got, none) || e != api.ErrPart) {
		t.Fatalf("of %s: %s, %d; want ErrPart", brief(of), brief(got), e)
	}
	if ok && (!same(got, want) || e != api.OK) {
		t.Fatalf("of %s: %s, %d; want %s", brief(of), brief(got), e, brief(want))
	}
}

func sameControl(a, b api.Control) bool { return a == b }

func sameList(a, b []api.Node) bool { return slices.EqualFunc(a, b, tlv.Same) }

// controlIs, attrIs, changeIs and resultIs hold what is made of a part, and what is read from that, against the chapter's words; each tells whether it is right.
func controlIs(t *testing.T, c api.Control) bool {
	t.Helper()
	want, ok := plainControl(c)
	n, e := part.Control(c)
	check(t, tlv.Same, c, n, e, want, ok)
	if ok {
		again, e := part.ReadControl(n)
		check(t, sameControl, n, again, e, c, true)
	}
	return ok
}

func attrIs(t *testing.T, a api.Attr, least int) bool {
	t.Helper()
	want, ok := plainAttr(a, least)
	n, e := part.Attr(a, least)
	check(t, tlv.Same, a, n, e, want, ok)
	if ok {
		again, e := part.ReadAttr(n, least)
		check(t, sameAttr, n, again, e, a, true)
	}
	return ok
}

func changeIs(t *testing.T, c api.Change) bool {
	t.Helper()
	want, ok := plainChange(c)
	n, e := part.Change(c)
	check(t, tlv.Same, c, n, e, want, ok)
	if ok {
		again, e := part.ReadChange(n)
		check(t, sameChange, n, again, e, c, true)
	}
	return ok
}

func resultIs(t *testing.T, r api.Result) bool {
	t.Helper()
	want, ok := plainResult(r)
	l, e := part.Result(r)
	check(t, sameList, r, l, e, want, ok)
	if ok {
		again, e := part.ReadResult(l)
		check(t, sameResult, l, again, e, r, true)
	}
	return ok
}

// treeIs holds what each call reads from a tree against the chapter's words; it tells how many may read it.
func treeIs(t *testing.T, n api.Node) int {
	t.Helper()
	read := 0
	count := func(ok bool) {
		if ok {
			read++
		}
	}
	wantControl, ok := guessControl(n)
	c, e := part.ReadControl(n)
	check(t, sameControl, n, c, e, wantControl, ok)
	count(ok)
	for least := -1; least <= 2; least++ {
		want, ok := guessAttr(n, least)
		a, e := part.ReadAttr(n, least)
		check(t, sameAttr, n, a, e, want, ok)
		count(ok)
	}
	wantChange, ok := guessChange(n)
	d, e := part.ReadChange(n)
	check(t, sameChange, n, d, e, wantChange, ok)
	count(ok)
	return read
}

func treesAre(t *testing.T, l []api.Node) bool {
	t.Helper()
	want, ok := guessResult(l)
	r, e := part.ReadResult(l)
	check(t, sameResult, l, r, e, want, ok)
	return ok
}

func unhex(t *testing.T, digits string) string {
	t.Helper()
	s, err := hex.DecodeString(strings.ReplaceAll(digits, " ", ""))
	if err != nil {
		t.Fatal(err)
	}
	return string(s)
}

// holdBytes holds a part's tree against bytes.
func holdBytes(t *testing.T, n api.Node, e api.Errno, digits string) {
	t.Helper()
	s, wrong := tlv.Encode(n)
	if want := unhex(t, digits); s != want || e != api.OK || wrong != api.OK {
		t.Errorf("%x, %d, %d; want %x", s, e, wrong, want)
	}
}

// P10.1, P10.2, P10.3
func TestExamples(t *testing.T) {
	n, e := part.Attr(attr("a", "b"), 1)
	holdBytes(t, n, e, "30 08 04 01 61 31 03 04 01 62")
	n, e = part.Attr(attr("a", "b"), 0)
	holdBytes(t, n, e, "30 08 04 01 61 31 03 04 01 62")
	n, e = part.Attr(attr("a"), 0)
	holdBytes(t, n, e, "30 05 04 01 61 31 00")
	n, e = part.Attr(attr("a;x", "", "c", ""), 1)
	holdBytes(t, n, e, "30 0e 04 03 61 3b 78 31 07 04 00 04 01 63 04 00")
	n, e = part.Change(api.Change{Kind: api.ToAdd, Attr: attr("a", "b")})
	holdBytes(t, n, e, "30 0d 0a 01 00 30 08 04 01 61 31 03 04 01 62")
	n, e = part.Change(api.Change{Kind: api.ToDelete, Attr: attr("a")})
	holdBytes(t, n, e, "30 0a 0a 01 01 30 05 04 01 61 31 00")
	n, e = part.Change(api.Change{Kind: api.ToReplace, Attr: attr("a")})
	holdBytes(t, n, e, "30 0a 0a 01 02 30 05 04 01 61 31 00")
	n, e = part.Control(api.Control{Oid: "1.2"})
	holdBytes(t, n, e, "30 05 04 03 312e32")
	n, e = part.Control(api.Control{Oid: "1.2", Critical: true})
	holdBytes(t, n, e, "30 08 04 03 312e32 01 01 ff")
	n, e = part.Control(api.Control{Oid: "1.2", Has: true})
	holdBytes(t, n, e, "30 07 04 03 312e32 04 00")
	n, e = part.Control(api.Control{Oid: "1.2", Critical: true, Value: "v", Has: true})
	holdBytes(t, n, e, "30 0b 04 03 312e32 01 01 ff 04 01 76")
	for digits, r := range map[string]api.Result{
		"30 07 0a 01 00 04 00 04 00":                                 {},
		"30 0b 0a 01 7f 04 03 6f3d78 04 01 61":                       {Code: 127, Dn: "o=x", Text: "a"},
		"30 0a 0a 02 0080 04 00 04 02 c3a9":                          {Code: 128, Text: "\xc3\xa9"},
		"30 08 0a 02 00c8 04 00 04 00":                               {Code: 200},
		"30 0c 0a 01 0a 04 00 04 00 a3 03 04 01 75":                  {Code: 10, Refs: []string{"u"}},
		"30 12 0a 01 0a 04 00 04 00 a3 09 04 01 75 04 01 75 04 0176": {Code: 10, Refs: []string{"u", "u", "v"}},
	} {
		l, e := part.Result(r)
		holdBytes(t, inner(0x30, l...), e, digits)
	}
}

// short yields all texts of some bytes, up to so many.
func short(signs string, most int, yield func(string)) {
	level := []string{""}
	for range most + 1 {
		var next []string
		for _, s := range level {
			yield(s)
			for i := range len(signs) {
				next = append(next, s+signs[i:i+1])
			}
		}
		level = next
	}
}

// P10.1
func TestIsOid(t *testing.T) {
	short("019.", 6, func(s string) {
		if part.IsOid(s) != plainOid(s) {
			t.Fatalf("IsOid(%q)", s)
		}
	})
	for b := range 256 {
		one := string([]byte{byte(b)})
		for _, s := range []string{one, one + one, "1." + one, one + ".1", "1" + one + "1", "1.2" + one, one + "1.2"} {
			if part.IsOid(s) != plainOid(s) {
				t.Errorf("IsOid(%q)", s)
			}
		}
	}
	for s, want := range map[string]bool{
		"1.2": true, "0.0": true, "2.5.4.3": true, "1.3.6.1.4.1.1466.115": true, "10.20": true,
		"1." + strings.Repeat("1", 18): true, "1." + strings.Repeat("1", 19): false, strings.Repeat("1.", 1<<20) + "1": false,
		"": false, "1": false, "cn": false, "o": false, "a.1": false, "1.": false, ".1": false, "1..2": false, "01.2": false, "1.02": false, "1.2;x": false, "-1.2": false, "1.2 ": false, "1.2\n": false,
	} {
		if part.IsOid(s) != want {
			t.Errorf("IsOid(%.60q) is not %v", s, want)
		}
	}
}

// P10.1
func TestIsDn(t *testing.T) {
	short(`o=,\1`, 6, func(s string) {
		if part.IsDn(s) != plainDn(s) {
			t.Fatalf("IsDn(%q)", s)
		}
	})
	long := strings.Repeat("cn="+letters(60)+",", 3) // 192 bytes
	for s, want := range map[string]bool{
		"": true, "o=x": true, `cn=a\,b+sn=c,o=x`: true, "1.2=": true,
		"o=" + letters(60): true, "o=" + letters(61): false, "o": false, "cn": false, "=a": false, "o=a,": false, "o=a;b": false, "o=*\x00": plainDn("o=*\x00"),
		long + "o=" + letters(6): true, long + "o=" + letters(7): false,
		"o=" + strings.Repeat(`\41`, 60) + ",o=" + strings.Repeat(`\41`, 4) + "aaa": true,
		"o=" + strings.Repeat(`\41`, 60) + ",o=" + strings.Repeat(`\41`, 5) + "a":   false,
		strings.Repeat("o=a,", 7) + "o=a":                                           true, strings.Repeat("o=a,", 8) + "o=a": false, letters(1 << 22): false,
	} {
		if part.IsDn(s) != want {
			t.Errorf("IsDn(%.60q), of %d, is not %v", s, len(s), want)
		}
	}
}

// oids are some, right and not.
func oids() []string {
	return []string{"1.2", "0.0", "2.5.4.3", "1." + strings.Repeat("1", 18), "", "cn", "1", "1." + strings.Repeat("1", 19), "1.02", "1.2;x", "1.2\x00"}
}

// sizes are texts, as many bytes as lists and limits may ask for.
func sizes(l ...int) []string {
	var all []string
	for _, n := range l {
		all = append(all, letters(n))
	}
	return all
}

// P10.1, P10.4
func TestControls(t *testing.T) {
	right := 0
	for _, oid := range oids() {
		for _, value := range append(sizes(0, 1, 60, 199, 200, 201, 1<<20), "\x00", "\xff\xfe", strings.Repeat("\xc3", 200)) {
			for i := range 4 {
				if controlIs(t, api.Control{Oid: oid, Critical: i&1 > 0, Value: value, Has: i&2 > 0}) {
					right++
				}
			}
		}
	}
	if right != 4*2*(8+1) {
		t.Errorf("%d are right", right)
	}
}

// P10.1
func TestControlsBytes(t *testing.T) {
	tree := func(yes string, more ...api.Node) api.Node {
		return inner(0x30, append([]api.Node{text("1.2"), leaf(1, yes)}, more...)...)
	}
	for b := range 256 {
		one := string([]byte{byte(b)})
		if treeIs(t, tree(one)) != min(b, 1) || treeIs(t, tree(one, text("v"))) != min(b, 1) {
			t.Errorf("byte %x", b)
		}
		for _, two := range []string{one + one, one + "\x00", "\x00" + one, "\xff" + one} {
			if treeIs(t, tree(two)) != 0 {
				t.Errorf("bytes %x", two)
			}
		}
	}
	if c, e := part.ReadControl(tree("\x01", text(""))); c != (api.Control{Oid: "1.2", Critical: true, Has: true}) || e != api.OK {
		t.Error(c, e)
	}
	if c, e := part.ReadControl(tree("\x00", text(""))); c != (api.Control{}) || e != api.ErrPart {
		t.Error(c, e)
	}
}

// names are attributes', right and not.
func names() []string {
	return []string{"a", "cn;lang-de", "2.5.4.3;x;y", letters(20), letters(20) + ";" + letters(9), "", "a;", "1", "a b", letters(21), letters(20) + ";" + letters(10), "\xc3\xa9"}
}

// P10.2, P10.4
func TestAttrs(t *testing.T) {
	right := 0
	for _, name := range names() {
		for count := range 9 {
			for _, value := range append(sizes(0, 1, 200, 201), "\x00\xff") {
				for _, least := range []int{-1 << 63, -1, 0, 1, 2, 3, 8, 1<<63 - 1} {
					a := attr(name, slices.Repeat([]string{value}, count)...)
					if attrIs(t, a, least) {
						right++
					}
					if tree, _ := plainAttr(a, 0); count < 8 && least >= 0 && least < 2 {
						treeIs(t, tree)
					}
				}
			}
		}
	}
	if want := 5 * (6*4*2 + 5); right != want { // of each name those of 1 to 6 values, and those of none, of five texts that are not used
		t.Errorf("%d are right; want %d", right, want)
	}
	for at := range 6 {
		a := attr("a", "1", "2", "3", "4", "5", "6")
		attrIs(t, a, 1)
		for _, n := range []int{200, 201} {
			a.Values[at] = letters(n)
			if ok := attrIs(t, a, 1); ok != (n == 200) {
				t.Errorf("value %d of %d bytes", at, n)
			}
			treeIs(t, inner(0x30, text(a.Name), texts(0x31, a.Values...)))
		}
	}
	for _, count := range []int{7, 100, 1 << 18} {
		attrIs(t, attr("a", make([]string, count)...), 1)
		treeIs(t, inner(0x30, text("a"), texts(0x31, make([]string, count)...)))
	}
}

// P10.2, P10.4
func TestChanges(t *testing.T) {
	kinds := []int{-1 << 63, -1 << 31, -256, -128, 255, 256, 257, 1 << 31, 1 << 32, 1<<32 + 1, 1<<63 - 1}
	for kind := -5; kind < 130; kind++ {
		kinds = append(kinds, kind)
	}
	right := 0
	for _, kind := range kinds {
		for _, name := range names() {
			for _, values := range [][]string{nil, {}, {""}, {"x", "y"}, sizes(200, 0, 0, 0, 0, 0), {letters(201)}, make([]string, 7)} {
				if changeIs(t, api.Change{Kind: kind, Attr: attr(name, values...)}) {
					right++
				}
			}
		}
	}
	if right != 5*(5+5+3) {
		t.Errorf("%d are right", right)
	}
}

// P10.2: just a kind's own bytes tell it.
func TestChangesBytes(t *testing.T) {
	read := 0
	short("\x00\x01\x02\x03\x7f\x80\xff", 5, func(s string) {
		for _, values := range [][]string{nil, {"x"}} {
			n, _ := plainAttr(attr("a", values...), 0)
			read += treeIs(t, inner(0x30, leaf(10, s), n))
		}
	})
	if read != 5 {
		t.Errorf("%d are read", read)
	}
	for b := range 256 {
		n, _ := plainAttr(attr("a", "x"), 0)
		if got := treeIs(t, inner(0x30, leaf(10, string([]byte{byte(b)})), n)); (got > 0) != (b < 3) {
			t.Errorf("byte %x", b)
		}
	}
}

// P10.3, P10.4
func TestResults(t *testing.T) {
	codes := []int{-1 << 63, -1 << 31, -200, -128, 255, 256, 266, 1<<32 + 10, 1<<63 - 1}
	for code := -3; code < 204; code++ {
		codes = append(codes, code)
	}
	right := 0
	for _, code := range codes {
		for _, refs := range [][]string{nil, {}, {"u"}, {"u", "u"}, {"u", "v", "w"}, {"u", "v", "w", "x"}, {""}, {"u", ""}} {
			if resultIs(t, api.Result{Code: code, Refs: refs}) {
				right++
			}
		}
	}
	if right != 2*200+3 {
		t.Errorf("%d are right", right)
	}
}

// P10.3, P10.4
func TestResultsTexts(t *testing.T) {
	long := strings.Repeat("cn="+letters(60)+",", 3) + "o=" // 194 bytes
	for _, name := range []string{"", "o=x", `cn=a\,b+sn=c,o=x`, "o=\xff", long + letters(6), long + letters(7), "o", "o=x,", letters(1 << 20)} {
		for _, s := range append(sizes(0, 1, 59, 60, 61, 1<<20), "\x00", "\xc3\xa9", "\xc3", "\xed\xa0\x80", strings.Repeat("\xc3\xa9", 30), strings.Repeat("\xc3\xa9", 31), letters(59)+"\xc3\xa9") {
			resultIs(t, api.Result{Dn: name, Text: s})
			treesAre(t, []api.Node{leaf(10, "\x00"), text(name), text(s)})
			for _, refs := range [][]string{{s}, {"u", s}, {s, "u"}, {"u", s, "v"}} {
				resultIs(t, api.Result{Code: 10, Dn: name, Refs: refs})
				treesAre(t, []api.Node{leaf(10, "\x0a"), text(name), text(""), texts(0xa3, refs...)})
			}
		}
	}
	for _, count := range []int{4, 100, 1 << 18} {
		refs := slices.Repeat([]string{"u"}, count)
		resultIs(t, api.Result{Code: 10, Refs: refs})
		treesAre(t, []api.Node{leaf(10, "\x0a"), text(""), text(""), texts(0xa3, refs...)})
	}
}

// P10.3: just a code's own bytes tell it.
func TestResultsBytes(t *testing.T) {
	read := 0
	short("\x00\x01\x09\x0a\x0b\x7f\x80\xc8\xc9\xff", 3, func(s string) {
		for _, more := range [][]api.Node{nil, {texts(0xa3, "u")}, {texts(0xa3)}} {
			if treesAre(t, append([]api.Node{leaf(10, s), text(""), text("")}, more...)) {
				read++
			}
		}
	})
	if read != 5+1+2 { // 0, 1, 9, 11, 127; 10; 128 and 200
		t.Errorf("%d are read", read)
	}
	for b := range 256 {
		one := string([]byte{byte(b)})
		for _, s := range []string{one, "\x00" + one, "\x01" + one, "\xff" + one} {
			treesAre(t, []api.Node{leaf(10, s), text("o=x"), text("")})
			treesAre(t, []api.Node{leaf(10, s), text("o=x"), text(""), texts(0xa3, "u")})
		}
	}
}

// pieces are trees that stand in parts' trees, or might.
func pieces() []api.Node {
	return []api.Node{
		text("1.2"), text("cn"), text(""), leaf(1, "\xff"), leaf(10, "\x00"), leaf(10, "\x0a"),
		texts(0x31, "x"), texts(0x31), texts(0xa3, "u"), texts(0xa3), inner(0x30, text("a"), texts(0x31, "x")), inner(0x30, text("a"), texts(0x31)),
	}
}

// lists yields all lists of some trees, up to so many.
func lists(most int, yield func([]api.Node)) {
	level := [][]api.Node{nil}
	for range most + 1 {
		var next [][]api.Node
		for _, l := range level {
			yield(l)
			for _, n := range pieces() {
				next = append(next, append(slices.Clip(l), n))
			}
		}
		level = next
	}
}

// P10.1, P10.2, P10.3: every list of up to four pieces.
func TestListsOfPieces(t *testing.T) {
	read, results := 0, 0
	lists(4, func(l []api.Node) {
		if len(l) < 4 {
			read += treeIs(t, inner(0x30, l...))
		}
		if treesAre(t, l) {
			results++
		}
	})
	// Controls: an OID, critical or not, with one of three values, or none. Attributes: two names, of one value (at least 0 or 1) or none. Changes: to add one value.
	if read != 2*4+2*(2+1)+1 {
		t.Errorf("%d trees are read", read)
	}
	// Code 0 with no name, and one of three texts; code 10 so, with a place.
	if results != 3+3 {
		t.Errorf("%d results are read", results)
	}
}

// changes yields a tree with one place of it changed, for each place, and each of some ways.
func changes(n api.Node, yield func(api.Node)) {
	for _, tag := range []int{n.Tag + 1, n.Tag ^ 0x20, n.Tag ^ 0x80, n.Tag + 256, -n.Tag, 0, 1, 2, 4, 10, 0x30, 0x31, 0xa3, 0x83} {
		if tag != n.Tag {
			yield(api.Node{Tag: tag, Data: n.Data, Kids: n.Kids})
		}
	}
	for _, s := range []string{n.Data + "a", "a" + n.Data, n.Data + "\x00", "\x00" + n.Data, n.Data + "\xff", "", "\x01", "\x02", "x"} {
		yield(api.Node{Tag: n.Tag, Data: s, Kids: n.Kids})
	}
	changesOfList(n.Kids, func(l []api.Node) { yield(api.Node{Tag: n.Tag, Data: n.Data, Kids: l}) })
}

func changesOfList(l []api.Node, yield func([]api.Node)) {
	for at := range len(l) + 1 {
		for _, one := range append(pieces(), api.Node{}, inner(0x30), leaf(2, "\x00"), leaf(0x80, "x")) {
			yield(slices.Insert(slices.Clone(l), at, one))
		}
	}
	for at, one := range l {
		yield(slices.Delete(slices.Clone(l), at, at+1))
		changes(one, func(other api.Node) {
			all := slices.Clone(l)
			all[at] = other
			yield(all)
		})
	}
}

// P10.1, P10.2, P10.3: whatever is changed at one place of a tree is told, or refused.
func TestEveryChangeOfOnePlace(t *testing.T) {
	for _, c := range []api.Control{{Oid: "1.2"}, {Oid: "1.2", Critical: true}, {Oid: "1.2", Value: "x", Has: true}, {Oid: "1.2", Critical: true, Has: true}} {
		n, _ := plainControl(c)
		changes(n, func(n api.Node) { treeIs(t, n) })
	}
	for _, a := range []api.Attr{attr("a"), attr("a", "x"), attr("a;x", "x", "", "y"), attr("a", "1", "2", "3", "4", "5", "6")} {
		n, _ := plainAttr(a, 0)
		changes(n, func(n api.Node) { treeIs(t, n) })
		for kind := range 3 {
			n, _ := plainChange(api.Change{Kind: kind, Attr: a})
			changes(n, func(n api.Node) { treeIs(t, n) })
		}
	}
	for _, r := range []api.Result{{}, {Code: 200, Dn: "o=x", Text: "x"}, {Code: 10, Refs: []string{"u"}}, {Code: 10, Dn: "o=x", Refs: []string{"u", "v", "w"}}} {
		l, _ := plainResult(r)
		changesOfList(l, func(l []api.Node) { treesAre(t, l) })
	}
}

// treesThatAreNone are refused by each call, each for one cause.
func treesThatAreNone() []api.Node {
	kid := inner(0)
	return []api.Node{
		{}, inner(0x30), leaf(0x30, "x"), text("1.2"), {Tag: 0x31, Kids: []api.Node{text("1.2")}}, {Tag: 0x30, Data: "x", Kids: []api.Node{text("1.2")}},
		inner(0x30, text("cn")), inner(0x30, leaf(2, "1.2")), inner(0x30, leaf(0x24, "1.2")), inner(0x30, api.Node{Tag: 4, Data: "1.2", Kids: []api.Node{kid}}),
		inner(0x30, text("1.2"), api.Node{Tag: 1, Data: "\xff", Kids: []api.Node{kid}}), inner(0x30, text("1.2"), api.Node{Tag: 4, Data: "v", Kids: []api.Node{kid}}),
		inner(0x30, text("1.2"), text("v"), leaf(1, "\xff")), inner(0x30, text("1.2"), text("v"), text("v")), inner(0x30, text("1.2"), leaf(1, "\xff"), leaf(1, "\xff")),
		inner(0x30, leaf(1, "\xff"), text("1.2")), inner(0x30, text("1.2"), leaf(2, "\x01")), inner(0x30, text("1.2"), leaf(1, "\x00"), text("v")),
		inner(0x30, texts(0x31, "x"), text("a")), inner(0x30, text("a"), texts(0x30, "x")), inner(0x30, text("a"), leaf(0x31, "x")), inner(0x30, text("a"), api.Node{Tag: 0x31, Data: "x", Kids: []api.Node{text("x")}}),
		inner(0x30, text("a"), inner(0x31, leaf(2, "x"))), inner(0x30, text("a"), inner(0x31, api.Node{Tag: 4, Data: "x", Kids: []api.Node{kid}})), inner(0x30, text("a"), texts(0x31, "x"), text("y")), inner(0x30, text("a"), texts(0x31, "x"), texts(0x31, "x")),
		inner(0x30, leaf(10, "\x00"), inner(0x30, text("a"), texts(0x31))), inner(0x30, leaf(10, "\x03"), inner(0x30, text("a"), texts(0x31, "x"))), inner(0x30, leaf(2, "\x01"), inner(0x30, text("a"), texts(0x31, "x"))),
		inner(0x30, leaf(10, "\x01")), inner(0x30, leaf(10, "\x01"), inner(0x31, text("a"), texts(0x31, "x"))), inner(0x30, leaf(10, "\x01"), inner(0x30, text("a"), texts(0x31)), text("")),
		inner(0x30, api.Node{Tag: 10, Data: "\x01", Kids: []api.Node{kid}}, inner(0x30, text("a"), texts(0x31))),
	}
}

// P10.1, P10.2
func TestTreesThatAreNone(t *testing.T) {
	for i, n := range treesThatAreNone() {
		if got := treeIs(t, n); got != 0 {
			t.Errorf("tree %d is read by %d", i, got)
		}
	}
}

// P10.3
func TestListsThatAreNone(t *testing.T) {
	kid := inner(0)
	none, ten := leaf(10, "\x00"), leaf(10, "\x0a")
	for i, l := range [][]api.Node{
		nil, {none}, {none, text("")}, {none, text(""), text(""), text("")}, {none, text(""), text(""), texts(0xa3)}, {none, text(""), text(""), texts(0xa3, "u")},
		{text(""), none, text("")}, {text(""), text(""), none}, {inner(0x30, none, text(""), text(""))}, {leaf(2, "\x00"), text(""), text("")}, {none, leaf(5, ""), text("")}, {none, text(""), leaf(5, "")},
		{leaf(10, ""), text(""), text("")}, {leaf(10, "\x00\x00"), text(""), text("")}, {leaf(10, "\xff"), text(""), text("")}, {leaf(10, "\x00\xc9"), text(""), text("")}, {leaf(10, "\xc8"), text(""), text("")},
		{ten, text(""), text("")}, {ten, text(""), text(""), texts(0xa3)}, {ten, text(""), text(""), texts(0x30, "u")}, {ten, text(""), text(""), leaf(0x83, "u")}, {ten, text(""), text(""), texts(0xa3, "u"), text("")}, {ten, text(""), text(""), texts(0xa3, "u"), texts(0xa3, "u")},
		{ten, text(""), text(""), {Tag: 0xa3, Data: "x", Kids: []api.Node{text("u")}}}, {ten, text(""), text(""), inner(0xa3, leaf(2, "u"))}, {ten, text(""), text(""), inner(0xa3, api.Node{Tag: 4, Data: "u", Kids: []api.Node{kid}})},
		{{Tag: 10, Data: "\x00", Kids: []api.Node{kid}}, text(""), text("")}, {none, {Tag: 4, Kids: []api.Node{kid}}, text("")}, {none, text(""), {Tag: 4, Kids: []api.Node{kid}}},
		{none, text("o"), text("")}, {none, text(""), text("\xff")}, slices.Repeat([]api.Node{none}, 1<<18),
	} {
		if treesAre(t, l) {
			t.Errorf("list %d is read", i)
		}
	}
}

// P10.1, P10.2, P10.3: a list of trees that holds itself is left off.
func TestListsThatHoldThemselves(t *testing.T) {
	for _, tag := range []int{0x30, 0x31, 4, 0xa3} {
		l := make([]api.Node, 2)
		l[0], l[1] = api.Node{Tag: tag, Kids: l}, api.Node{Tag: tag, Kids: l}
		for _, n := range []api.Node{inner(0x30, l...), inner(0x30, text("a"), l[0]), inner(0x30, text("1.2"), l[0]), inner(0x30, leaf(10, "\x00"), l[0])} {
			if c, e := part.ReadControl(n); c != (api.Control{}) || e != api.ErrPart {
				t.Error(c, e)
			}
			if a, e := part.ReadAttr(n, 0); !reflect.DeepEqual(a, api.Attr{}) || e != api.ErrPart {
				t.Error(a, e)
			}
			if c, e := part.ReadChange(n); !reflect.DeepEqual(c, api.Change{}) || e != api.ErrPart {
				t.Error(c, e)
			}
		}
		for _, l := range [][]api.Node{l, {leaf(10, "\x0a"), text(""), text(""), l[0]}} {
			if r, e := part.ReadResult(l); !reflect.DeepEqual(r, api.Result{}) || e != api.ErrPart {
				t.Error(r, e)
			}
		}
	}
}

// maker makes parts, most of them right, and changes trees.
type maker struct{ *rand.Rand }

func (m maker) text(most int) string {
	s := make([]byte, m.Intn(most+1))
	for i := range s {
		s[i] = byte(m.Intn(256))
	}
	return string(s)
}

func (m maker) right(most int) string {
	var s []rune
	for range m.Intn(most/4 + 1) {
		s = append(s, rune(m.Intn(0xd800)))
	}
	return string(s)
}

func (m maker) attr() api.Attr {
	a := attr(names()[m.Intn(6)])
	for range m.Intn(8) {
		a.Values = append(a.Values, m.text(201))
	}
	return a
}

func (m maker) control() api.Control {
	c := api.Control{Oid: oids()[m.Intn(5)], Critical: m.Intn(2) == 0, Has: m.Intn(2) == 0}
	if c.Has || m.Intn(10) == 0 {
		c.Value = m.text(201)
	}
	return c
}

func (m maker) result() api.Result {
	r := api.Result{Code: m.Intn(203) - 1, Text: m.right(62)}
	if m.Intn(2) == 0 {
		r.Code = 10
	}
	for range m.Intn(5) * (m.Intn(20) / 19) {
		r.Refs = append(r.Refs, m.right(62))
	}
	for r.Code == 10 && len(r.Refs) == 0 {
		r.Refs = append(r.Refs, "u"+m.right(58))
	}
	if m.Intn(2) == 0 {
		name := []api.Rdn{{L: []api.Ava{{Type: "cn", Value: m.text(60)}}}, {L: []api.Ava{{Type: "o", Value: m.text(9)}}}}
		r.Dn, _ = dn.Print(name)
	}
	return r
}

// change changes one of a tree's trees, if it has some, or itself.
func (m maker) change(n api.Node) api.Node {
	if len(n.Kids) > 0 && m.Intn(4) > 0 {
		n.Kids = slices.Clone(n.Kids)
		at := m.Intn(len(n.Kids))
		n.Kids[at] = m.change(n.Kids[at])
		return n
	}
	all := []api.Node{}
	changes(n, func(n api.Node) { all = append(all, n) })
	return all[m.Intn(len(all))]
}

// P10.1, P10.2, P10.3, P10.4
func TestAnyParts(t *testing.T) {
	m := maker{rand.New(rand.NewSource(10))}
	right := [4]int{}
	count := func(at int, ok bool) {
		if ok {
			right[at]++
		}
	}
	for range 4000 {
		c, a, r := m.control(), m.attr(), m.result()
		d := api.Change{Kind: m.Intn(4), Attr: a}
		count(0, controlIs(t, c))
		count(1, attrIs(t, a, m.Intn(3)))
		count(2, changeIs(t, d))
		count(3, resultIs(t, r))
		n, _ := plainControl(c)
		treeIs(t, n)
		treeIs(t, m.change(n))
		n, _ = plainAttr(a, 0)
		treeIs(t, n)
		treeIs(t, m.change(n))
		n, _ = plainChange(d)
		treeIs(t, n)
		treeIs(t, m.change(n))
		l, _ := plainResult(r)
		treesAre(t, l)
		treesAre(t, m.change(inner(0x30, l...)).Kids)
	}
	for at, n := range right {
		if n < 1000 {
			t.Errorf("just %d of the calls %d are right", n, at)
		}
	}
}

// P10.1, P10.2, P10.3: nil and empty lists are one.
func TestEmptyLists(t *testing.T) {
	none := []api.Node{}
	if a, e := part.ReadAttr(inner(0x30, api.Node{Tag: 4, Data: "a", Kids: none}, api.Node{Tag: 0x31, Kids: none}), 0); !sameAttr(a, attr("a")) || e != api.OK {
		t.Error(a, e)
	}
	if n, e := part.Attr(api.Attr{Name: "a", Values: []string{}}, 0); !tlv.Same(n, inner(0x30, text("a"), texts(0x31))) || e != api.OK {
		t.Error(n, e)
	}
	if l, e := part.Result(api.Result{Refs: []string{}}); len(l) != 3 || e != api.OK {
		t.Error(l, e)
	}
	if c, e := part.ReadControl(inner(0x30, api.Node{Tag: 4, Data: "1.2", Kids: none}, api.Node{Tag: 1, Data: "\x07", Kids: none})); c != (api.Control{Oid: "1.2", Critical: true}) || e != api.OK {
		t.Error(c, e)
	}
}

// spoil writes into a tree's lists, and their spare room.
func spoil(l []api.Node) {
	l = l[:cap(l)]
	for i := range l {
		spoil(l[i].Kids)
		l[i] = leaf(99, "spoilt")
	}
}

// spoilTexts writes into a list, and its spare room.
func spoilTexts(l []string) {
	l = l[:cap(l)]
	for i := range l {
		l[i] = "spoilt"
	}
}

// R3: what is answered is new memory, no two lists of it share any.
func TestAnswersShareNothing(t *testing.T) {
	c, a := api.Control{Oid: "1.2", Critical: true, Value: "v", Has: true}, attr("a", "x", "y", "z")
	d, r := api.Change{Kind: 2, Attr: a}, api.Result{Code: 10, Refs: []string{"u", "v"}}
	control, _ := plainControl(c)
	values, _ := plainAttr(a, 1)
	change, _ := plainChange(d)
	result, _ := plainResult(r)
	for range 2 {
		n, _ := part.Attr(a, 1)
		spoil(n.Kids[1].Kids)
		if n.Kids[0].Data != "a" || n.Kids[1].Tag != 0x31 {
			t.Error("an attribute's lists share")
		}
		spoil(n.Kids)
		n, _ = part.Change(d)
		spoil(n.Kids[1].Kids)
		if n.Kids[0].Data != "\x02" || n.Kids[1].Tag != 0x30 {
			t.Error("a change's lists share")
		}
		spoil(n.Kids)
		n, _ = part.Control(c)
		spoil(n.Kids)
		l, _ := part.Result(r)
		spoil(l[3].Kids)
		if l[3].Tag != 0xa3 || l[0].Data != "\x0a" {
			t.Error("a result's lists share")
		}
		spoil(l)
		b, _ := part.ReadAttr(values, 1)
		spoilTexts(b.Values)
		e, _ := part.ReadChange(change)
		spoilTexts(e.Attr.Values)
		s, _ := part.ReadResult(result)
		spoilTexts(s.Refs)
	}
	if !controlIs(t, c) || !attrIs(t, a, 1) || !changeIs(t, d) || !resultIs(t, r) {
		t.Error("a part is changed")
	}
	if treeIs(t, control) != 1 || treeIs(t, values) != 2 || treeIs(t, change) != 1 || !treesAre(t, result) {
		t.Error("a tree is changed")
	}
}

// R3: what is handed in is not written into, nor its spare room.
func TestArgumentsStay(t *testing.T) {
	strs := func(l ...string) []string { return l[:len(l)-1] }
	nodes := func(l ...api.Node) []api.Node { return l[:len(l)-1] }
	a := attr("a", strs("x", "y", "spare")...)
	d := api.Change{Kind: 1, Attr: a}
	r := api.Result{Code: 10, Refs: strs("u", "v", "spare")}
	part.Attr(a, 1)
	part.Change(d)
	part.Result(r)
	if !slices.Equal(a.Values[:3], []string{"x", "y", "spare"}) || !slices.Equal(r.Refs[:3], []string{"u", "v", "spare"}) {
		t.Error("a list is changed")
	}
	n := inner(0x30, nodes(text("a"), inner(0x31, nodes(text("x"), leaf(99, "spare"))...), leaf(99, "spare"))...)
	c := inner(0x30, nodes(text("1.2"), leaf(1, "\x05"), leaf(99, "spare"))...)
	l := nodes(leaf(10, "\x0a"), text(""), text(""), inner(0xa3, nodes(text("u"), leaf(99, "spare"))...), leaf(99, "spare"))
	if treeIs(t, n) != 2 || treeIs(t, c) != 1 || !treesAre(t, l) {
		t.Error("what is right is refused")
	}
	for i, spare := range []api.Node{n.Kids[:3][2], n.Kids[1].Kids[:2][1], c.Kids[:3][2], l[:5][4], l[3].Kids[:2][1]} {
		if !tlv.Same(spare, leaf(99, "spare")) {
			t.Errorf("spare room %d is changed", i)
		}
	}
	if c.Kids[1].Data != "\x05" {
		t.Error("a byte is changed")
	}
}

// The oracle's own names are held against the layers below, which are tested there.
func TestPlainNames(t *testing.T) {
	for _, s := range append(names(), oids()...) {
		if plainName(s) != filt.IsName(s) {
			t.Errorf("%q", s)
		}
	}
}

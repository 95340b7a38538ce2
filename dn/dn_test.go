package dn_test

import (
	"math/rand"
	"reflect"
	"regexp"
	"slices"
	"strings"
	"testing"

	"latiner/api"
	"latiner/dn"
	"latiner/esc"
)

// rdn is a part of types and values, by turns.
func rdn(l ...string) api.Rdn {
	var r api.Rdn
	for i := 0; i+1 < len(l); i += 2 {
		r.L = append(r.L, api.Ava{Type: l[i], Value: l[i+1]})
	}
	return r
}

func name(l ...api.Rdn) []api.Rdn { return l }

func letters(n int) string { return strings.Repeat("a", n) }

// names are right ones, beside their texts.
func names() map[string][]api.Rdn {
	eight := slices.Repeat(name(rdn("a", "")), 8)
	full := slices.Repeat(name(rdn(letters(20), strings.Repeat(",", 60), letters(20), strings.Repeat("\xff", 60), "1.2", letters(60))), 8)
	one := letters(20) + "=" + strings.Repeat(`\,`, 60) + "+" + letters(20) + "=" + strings.Repeat(`\ff`, 60) + "+1.2=" + letters(60)
	return map[string][]api.Rdn{
		``:                               nil,
		`cn=a`:                           name(rdn("cn", "a")),
		`cn=`:                            name(rdn("cn", "")),
		`CN=A`:                           name(rdn("CN", "A")),
		`cn=+sn=`:                        name(rdn("cn", "", "sn", "")),
		`cn=,sn=`:                        name(rdn("cn", ""), rdn("sn", "")),
		`cn=a,cn=a`:                      name(rdn("cn", "a"), rdn("cn", "a")),
		`cn=a+cn=a`:                      name(rdn("cn", "a", "cn", "a")),
		`cn=a\,b+sn=c,o=x`:               name(rdn("cn", "a,b", "sn", "c"), rdn("o", "x")),
		`o=x,cn=a+sn=b+l=c`:              name(rdn("o", "x"), rdn("cn", "a", "sn", "b", "l", "c")),
		`cn=a\\,o=b`:                     name(rdn("cn", `a\`), rdn("o", "b")),
		`cn=a\\+o=b`:                     name(rdn("cn", `a\`, "o", "b")),
		`cn=a\\\,o=b`:                    name(rdn("cn", `a\,o=b`)),
		`cn=a\\\+o=b`:                    name(rdn("cn", `a\+o=b`)),
		`cn=\\`:                          name(rdn("cn", `\`)),
		`cn=\,\+,o=\+\,`:                 name(rdn("cn", `,+`), rdn("o", `+,`)),
		`cn=a=b==`:                       name(rdn("cn", "a=b==")),
		`cn==`:                           name(rdn("cn", "=")),
		`cn=\#a,o=\ `:                    name(rdn("cn", "#a"), rdn("o", " ")),
		`cn=\ a\ +o=a b`:                 name(rdn("cn", " a ", "o", "a b")),
		`cn=\"\;\<\>`:                    name(rdn("cn", `";<>`)),
		`0.0=\00,2.5.4.3=\c3\a9`:         name(rdn("0.0", "\x00"), rdn("2.5.4.3", "é")),
		`A-9=a`:                          name(rdn("A-9", "a")),
		`cn=\ff\80`:                      name(rdn("cn", "\xff\x80")),
		strings.Repeat("a=,", 7) + "a=":  eight,
		strings.Repeat(one+",", 7) + one: full,
	}
}

// wrongNames are not right, each for one cause.
func wrongNames() map[string][]api.Rdn {
	return map[string][]api.Rdn{
		"a part of none":      {{}},
		"an empty list":       {{L: []api.Ava{}}},
		"none behind":         name(rdn("cn", "a"), rdn()),
		"none ahead":          name(rdn(), rdn("cn", "a")),
		"no type":             name(rdn("", "a")),
		"wrong type":          name(rdn("c n", "a")),
		"wrong type behind":   name(rdn("cn", "a", "1", "a")),
		"wrong type, last":    name(rdn("cn", "a"), rdn("o", "a", "cn=", "a")),
		"type of 21":          name(rdn(letters(21), "a")),
		"value of 61":         name(rdn("cn", letters(61))),
		"value of 61, last":   name(rdn("cn", ""), rdn("cn", "", "cn", "", "cn", letters(61))),
		"value of 61 \\ff":    name(rdn("cn", strings.Repeat("\xff", 61))),
		"four together":       name(rdn("a", "", "a", "", "a", "", "a", "")),
		"four together, last": name(rdn("b", ""), rdn("a", "", "a", "", "a", "", "a", "")),
		"nine":                slices.Repeat(name(rdn("a", "")), 9),
		"many":                slices.Repeat(name(rdn("a", "")), 100000),
		"many of none":        make([]api.Rdn, 100000),
		"many together":       {{L: slices.Repeat([]api.Ava{{Type: "a"}}, 100000)}},
		"a long value":        name(rdn("cn", letters(1000000))),
		"a long type":         name(rdn(letters(1000000), "")),
	}
}

// P7.1
func TestNamesAreRightAndPrinted(t *testing.T) {
	for want, d := range names() {
		if !dn.Right(d) {
			t.Errorf("not right: %.40q", want)
		}
		if s, e := dn.Print(d); s != want || e != api.OK {
			t.Errorf("Print = %.40q, %d; want %.40q", s, e, want)
		}
	}
	if s, e := dn.Print([]api.Rdn{}); s != "" || e != api.OK || !dn.Right([]api.Rdn{}) {
		t.Errorf("Print of none = %q, %d", s, e)
	}
}

// P7.1
func TestWrongNamesAreRefused(t *testing.T) {
	for why, d := range wrongNames() {
		if dn.Right(d) {
			t.Errorf("%s: right", why)
		}
		if s, e := dn.Print(d); s != "" || e != api.ErrDn {
			t.Errorf("%s: Print = %.40q, %d; want ErrDn", why, s, e)
		}
	}
}

// P7.1, P7.3
func TestNamesAreReadFromTheirTexts(t *testing.T) {
	for s, want := range names() {
		if d, e := dn.Parse(s); !equal(d, want) || e != api.OK {
			t.Errorf("Parse(%.40q) = %v, %d; want %v", s, d, e, want)
		}
		if u, e := dn.Canon(s); u != s || e != api.OK {
			t.Errorf("Canon(%.40q) = %.40q, %d", s, u, e)
		}
	}
}

// P7.1, P7.2
func TestTextsThatAreNotPrintedSo(t *testing.T) {
	for _, c := range []struct {
		text, canon string
		want        []api.Rdn
	}{
		{"cn=\xc3\xa9", `cn=\c3\a9`, name(rdn("cn", "é"))},
		{`cn=\C3\A9`, `cn=\c3\a9`, name(rdn("cn", "é"))},
		{`cn=a\2Cb,o=\2b`, `cn=a\,b,o=\+`, name(rdn("cn", "a,b"), rdn("o", "+"))},
		{`cn=\=\61`, `cn==a`, name(rdn("cn", "=a"))},
		{`cn=a\=b`, `cn=a=b`, name(rdn("cn", "a=b"))},
		{`cn=a\ b\#`, `cn=a b#`, name(rdn("cn", "a b#"))},
		{`cn=\5c,o=x`, `cn=\\,o=x`, name(rdn("cn", `\`), rdn("o", "x"))},
		{`cn=\5C+o=x`, `cn=\\+o=x`, name(rdn("cn", `\`, "o", "x"))},
		{`cn=\20`, `cn=\ `, name(rdn("cn", " "))},
		{`cn=\23`, `cn=\#`, name(rdn("cn", "#"))},
		{"cn=a\nb", `cn=a\0ab`, name(rdn("cn", "a\nb"))},
		{`cn=` + strings.Repeat(`\61`, 60), `cn=` + letters(60), name(rdn("cn", letters(60)))},
	} {
		if d, e := dn.Parse(c.text); !equal(d, c.want) || e != api.OK {
			t.Errorf("Parse(%q) = %v, %d; want %v", c.text, d, e, c.want)
		}
		if u, e := dn.Canon(c.text); u != c.canon || e != api.OK {
			t.Errorf("Canon(%q) = %q, %d; want %q", c.text, u, e, c.canon)
		}
	}
}

// P7.1, P7.2
func TestWrongTextsAreRefused(t *testing.T) {
	for _, s := range []string{
		// No type and value between the signs.
		`cn`, `=a`, `=`, `,`, `+`, ` `, `cn=a,`, `,cn=a`, `cn=a,,o=b`, `cn=a+`, `+cn=a`, `cn=a++o=b`, `cn=a+,o=b`, `cn=a,+o=b`, `cn=a,b`, `cn=a+b`, `a,cn=b`, `,,`, `++`,
		// No type.
		`cn =a`, ` cn=a`, `cn=a, o=b`, `cn=a + o=b`, `1=a`, `1.=a`, `.1=a`, `1.02=a`, `00.1=a`, `c_n=a`, `-a=b`, `9a=b`, `a.b=c`, `cn;x=a`, `\cn=a`, `c\=n=a`, `c\,n=a`, `c\+n=a`, `cn\=a`, `\63n=a`, "\xc3\xa9=a", "c\x00=a", "cn\n=a", `oid.1.2=a`,
		letters(21) + `=a`, `1.2345678901234567890=a`, letters(100000) + `=a`,
		// No value.
		`cn=a\`, `cn=\`, `cn=a;o=b`, `cn=#04`, `cn= a`, `cn=a `, `cn=a ,o=b`, `cn=a +o=b`, `cn="a,b"`, `cn="a"`, `cn=<a>`, `cn=a\zb`, `cn=\4`, `cn=\4,o=b`, `cn=\4+o=b`, `cn=\a,o=b`, `cn=\,,`, `cn=\\ `, "cn=a\xff", "cn=\xc3", "cn=\xc3,o=\xa9", "cn=\\\xc3\xa9", "cn=a\x00", "cn=\\\x00", "cn=\xc0\x80",
		`cn=` + letters(61), `cn=` + strings.Repeat(`\61`, 61), `cn=` + strings.Repeat("\xc3\xa9", 30) + "a", `cn=` + letters(100000), `o=x,cn=a+sn=` + letters(61) + `,o=x`,
		// Too many.
		`a=1+b=2+c=3+d=4`, `o=x,a=1+b=2+c=3+d=4`, strings.Repeat(`a=,`, 8) + `a=`, strings.Repeat(`a=,`, 8), strings.Repeat(`a=,`, 100000) + `a=`, strings.Repeat(`a=+`, 100000) + `a=`, strings.Repeat(`,`, 100000), strings.Repeat(`\`, 100001),
	} {
		if d, e := dn.Parse(s); len(d) != 0 || e != api.ErrDn {
			t.Errorf("Parse(%.40q) = %v, %d; want ErrDn", s, d, e)
		}
		if u, e := dn.Canon(s); u != "" || e != api.ErrDn {
			t.Errorf("Canon(%.40q) = %.40q, %d; want ErrDn", s, u, e)
		}
	}
}

// The chapter's words on types, as a pattern.
var typeText = regexp.MustCompile(`^(?:[A-Za-z][A-Za-z0-9-]*|(?:0|[1-9][0-9]*)(?:\.(?:0|[1-9][0-9]*))+)$`)

func mayBeType(s string) bool {
	return len(s) <= 20 && typeText.MatchString(s) && !strings.HasSuffix(s, "\n")
}

// P7.1
func TestIsType(t *testing.T) {
	for s, want := range map[string]bool{
		"cn": true, "a": true, "Z": true, "a-": true, "a--": true, "a-1": true, "A9z": true, "0.0": true, "1.20.3": true, "0.10": true, "1.2.0": true,
		letters(20): true, "1.234567890123456789": true, strings.Repeat("1.", 9) + "12": true,
		"": false, "1": false, "0": false, "12": false, "1.": false, ".1": false, ".": false, "..": false, "1..2": false, "01.2": false, "1.02": false, "1.00": false, "00.1": false, "1.a": false, "a.1": false, "-": false, "-a": false, "-1.2": false, "1.-2": false, "1-2.3": false, "9a": false, "a.b": false, "é": false, "aé": false, "a b": false, " a": false, "a ": false, "a_b": false, "a;b": false, "a=": false, `1\.2`: false, `1.2\`: false, `1.2\.3`: false, "1.2\n": false, "a\n": false, "a\x00": false, "@": false, "[": false, "`": false, "{": false, "a/": false, "a:": false,
		letters(21): false, "1.2345678901234567890": false, strings.Repeat("1.", 10) + "1": false, letters(1000000): false, strings.Repeat("1.", 500000) + "1": false,
	} {
		if dn.IsType(s) != want {
			t.Errorf("IsType(%.40q) = %v", s, !want)
		}
	}
}

// P7.1
func TestEveryShortType(t *testing.T) {
	for i := range 256 {
		one := string([]byte{byte(i)})
		checkType(t, one)
		for j := range 256 {
			two := one + string([]byte{byte(j)})
			checkType(t, two)
			checkType(t, "1."+two)
			checkType(t, two+".1")
		}
	}
	every("azAZ019-. ", "", 5, func(s string) { checkType(t, s) })
}

func checkType(t *testing.T, s string) {
	t.Helper()
	want := mayBeType(s)
	if dn.IsType(s) != want {
		t.Fatalf("IsType(%q) = %v", s, !want)
	}
	if dn.Right(name(rdn(s, ""))) != want {
		t.Fatalf("Right of the type %q = %v", s, !want)
	}
}

// every calls a function with each text of up to so many of some bytes.
func every(some, s string, left int, call func(string)) {
	call(s)
	if left == 0 {
		return
	}
	for i := range len(some) {
		every(some, s+some[i:i+1], left-1, call)
	}
}

// cut says plainly where a text is cut.
func cut(s string, sign byte) []string {
	all := []string{""}
	for at := 0; at < len(s); at++ {
		last := &all[len(all)-1]
		switch {
		case s[at] == '\\' && at+1 < len(s):
			*last += s[at : at+2]
			at++
		case s[at] == sign:
			all = append(all, "")
		default:
			*last += s[at : at+1]
		}
	}
	return all
}

// plainRead says plainly what a text tells, if it may be read.
func plainRead(s string) ([]api.Rdn, bool) {
	if s == "" {
		return nil, true
	}
	var d []api.Rdn
	for _, together := range cut(s, ',') {
		var r api.Rdn
		for _, piece := range cut(together, '+') {
			at := strings.IndexByte(piece, '=')
			if at < 0 || !mayBeType(piece[:at]) {
				return nil, false
			}
			v, e := esc.ReadName(piece[at+1:])
			if e != api.OK || len(v) > 60 {
				return nil, false
			}
			r.L = append(r.L, api.Ava{Type: piece[:at], Value: v})
		}
		if len(r.L) > 3 {
			return nil, false
		}
		d = append(d, r)
	}
	return d, len(d) <= 8
}

// plainPrint says plainly what is printed of a name.
func plainPrint(d []api.Rdn) string {
	s := ""
	for i, r := range d {
		if i > 0 {
			s += ","
		}
		for j, a := range r.L {
			if j > 0 {
				s += "+"
			}
			s += a.Type + "=" + esc.Name(a.Value)
		}
	}
	return s
}

// checkText holds what is read from a text against the chapter's words, prints it, and reads it again.
func checkText(t *testing.T, s string) {
	t.Helper()
	d, e := dn.Parse(s)
	u, f := dn.Canon(s)
	want, ok := plainRead(s)
	if !ok {
		if len(d) != 0 || e != api.ErrDn || u != "" || f != api.ErrDn {
			t.Fatalf("%q: Parse = %v, %d; Canon = %q, %d; want ErrDn", s, d, e, u, f)
		}
		return
	}
	if !equal(d, want) || e != api.OK || !dn.Right(d) {
		t.Fatalf("Parse(%q) = %v, %d; want %v", s, d, e, want)
	}
	if u != plainPrint(want) || f != api.OK {
		t.Fatalf("Canon(%q) = %q, %d; want %q", s, u, f, plainPrint(want))
	}
	if again, e := dn.Parse(u); !equal(again, d) || e != api.OK {
		t.Fatalf("Parse(%q), of %q, = %v, %d; want %v", u, s, again, e, d)
	}
	if again, e := dn.Canon(u); again != u || e != api.OK {
		t.Fatalf("Canon(%q) = %q, %d", u, again, e)
	}
}

// P7.1, P7.2, P7.3
func TestEveryShortText(t *testing.T) {
	every(`a=,+\ 1.#`, "", 6, func(s string) { checkText(t, s) })
	every(`a=,+\`, "a=", 6, func(s string) { checkText(t, s) })
	every(`=,+\5c`, "cn=", 5, func(s string) { checkText(t, s+",o=b") })
}

// P7.1, P7.3
func TestEveryByteAtEveryPlace(t *testing.T) {
	for _, s := range []string{``, `cn=a`, `cn=a\,b+sn=c,o=x`, `1.2=\5c,a=\\+b=\ `, "a-=\xc3\xa9,b=="} {
		for at := range len(s) + 1 {
			for i := range 256 {
				b := string([]byte{byte(i)})
				checkText(t, s[:at]+b+s[at:])
				if at < len(s) {
					checkText(t, s[:at]+b+s[at+1:])
					checkText(t, s[:at]+s[at+1:])
				}
			}
		}
	}
}

// anyName is one whose counts and sizes go just past what is allowed.
func anyName(r *rand.Rand) ([]api.Rdn, bool) {
	types := []string{"cn", "o", "A-1", "1.2", "0.0.0", letters(20), letters(20), "1", "", letters(21)}
	const some = "a,+=\\ #\"\x00\xffé"
	right := true
	d := make([]api.Rdn, r.Intn(9+r.Intn(2)))
	for i := range d {
		for range 1 + r.Intn(3) {
			kind := types[r.Intn(7)]
			if r.Intn(200) == 0 {
				kind = types[r.Intn(len(types))]
			}
			value := make([]byte, r.Intn(6))
			if r.Intn(60) == 0 {
				value = make([]byte, 58+r.Intn(4))
			}
			for k := range value {
				value[k] = some[r.Intn(len(some))]
			}
			d[i].L = append(d[i].L, api.Ava{Type: kind, Value: string(value)})
			right = right && mayBeType(kind) && len(value) <= 60
		}
		if r.Intn(60) == 0 {
			d[i].L = slices.Repeat(d[i].L, r.Intn(3))
		}
		right = right && len(d[i].L) > 0 && len(d[i].L) <= 3
	}
	return d, right && len(d) <= 8
}

// P7.1, P7.2, P7.3
func TestNamesOfAnyParts(t *testing.T) {
	r := rand.New(rand.NewSource(7))
	count := map[bool]int{}
	for range 20000 {
		d, right := anyName(r)
		count[right]++
		if dn.Right(d) != right {
			t.Fatalf("Right(%q) = %v", d, !right)
		}
		s, e := dn.Print(d)
		if !right {
			if s != "" || e != api.ErrDn {
				t.Fatalf("Print(%q) = %q, %d; want ErrDn", d, s, e)
			}
			continue
		}
		if s != plainPrint(d) || e != api.OK {
			t.Fatalf("Print(%q) = %q, %d; want %q", d, s, e, plainPrint(d))
		}
		if u, e := dn.Parse(s); !equal(u, d) || e != api.OK {
			t.Fatalf("Parse(%q) = %q, %d; want %q", s, u, e, d)
		}
		checkText(t, s)
	}
	if count[true] < 1000 || count[false] < 1000 {
		t.Fatalf("too few of a kind: %v", count)
	}
}

// equal holds two names against each other without the package's own Same; nil and empty lists are one.
func equal(a, b []api.Rdn) bool {
	if len(a) != len(b) {
		return false
	}
	for i := range a {
		if len(a[i].L) != len(b[i].L) || len(a[i].L) > 0 && !reflect.DeepEqual(a[i].L, b[i].L) {
			return false
		}
	}
	return true
}

// some are names, right or not, all of them different.
func some() [][]api.Rdn {
	return [][]api.Rdn{
		nil,
		{{}},
		{{}, {}},
		name(rdn("cn", "a")),
		name(rdn("CN", "a")),
		name(rdn("cn", "A")),
		name(rdn("cn", "")),
		name(rdn("", "a")),
		name(rdn("", "")),
		name(rdn("cn", "a "), rdn("o", "x")),
		name(rdn("cn", "a"), rdn("o", "x")),
		name(rdn("o", "x"), rdn("cn", "a")),
		name(rdn("o", "x")),
		name(rdn("cn", "a", "o", "x")),
		name(rdn("o", "x", "cn", "a")),
		name(rdn("cn", "a"), rdn()),
		name(rdn(), rdn("cn", "a")),
		name(rdn("cn", "a"), rdn("cn", "a")),
		name(rdn("cn", "a", "cn", "a")),
		name(rdn("c", "na")),
		name(rdn("b", ""), rdn("cn", "a"), rdn("o", "x")),
		name(rdn("b", ""), rdn("cn", "a", "o", "x")),
		name(rdn("?", "\xff"), rdn("o", "x")),
		name(rdn("cn", letters(61))),
		slices.Repeat(name(rdn("a", "")), 9),
		slices.Repeat(name(rdn("a", "")), 10),
	}
}

// P7.1
func TestSame(t *testing.T) {
	left, right := some(), some()
	for i, a := range left {
		for j, b := range right {
			if dn.Same(a, b) != (i == j) {
				t.Errorf("Same(%q, %q) = %v", a, b, i != j)
			}
		}
	}
	if !dn.Same(nil, []api.Rdn{}) || !dn.Same([]api.Rdn{}, nil) || !dn.Same([]api.Rdn{{}}, []api.Rdn{{L: []api.Ava{}}}) {
		t.Error("nil and empty lists are one")
	}
}

// P7.2, P7.3
func TestIsUnder(t *testing.T) {
	for _, d := range some() {
		if !dn.IsUnder(d, d) || !dn.IsUnder(d, nil) || !dn.IsUnder(d, []api.Rdn{}) {
			t.Errorf("%q is not under itself, or not under none", d)
		}
		for _, base := range some() {
			want := len(base) <= len(d) && equal(d[len(d)-min(len(d), len(base)):], base)
			if dn.IsUnder(d, base) != want {
				t.Errorf("IsUnder(%q, %q) = %v", d, base, !want)
			}
		}
	}
	d := name(rdn("cn", "a"), rdn("o", "x", "l", "z"), rdn("c", "y"))
	for i, c := range []struct {
		base []api.Rdn
		want bool
	}{
		{d[1:], true},
		{d[2:], true},
		{d[3:], true},
		{d[:1], false},
		{d[:2], false},
		{d[1:2], false},
		{name(rdn("l", "z"), rdn("c", "y")), false},
		{name(rdn("l", "z", "o", "x"), rdn("c", "y")), false},
		{name(rdn("c", "Y")), false},
		{name(rdn("C", "y")), false},
		{name(rdn("b", ""), rdn("cn", "a"), rdn("o", "x", "l", "z"), rdn("c", "y")), false},
	} {
		if dn.IsUnder(d, c.base) != c.want {
			t.Errorf("%d: IsUnder(.., %q) = %v", i, c.base, !c.want)
		}
	}
}

// R3: what is answered is new memory, spare room too.
func TestAnswersShareNothing(t *testing.T) {
	const s = `a=1+b=2+c=3,d=4,e=5+f=6,g=7+h=8+i=9,j=0`
	want, _ := plainRead(s)
	one, _ := dn.Parse(s)
	for i := range one {
		l := one[i].L
		for at := range l[:cap(l)] {
			l[:cap(l)][at] = api.Ava{Type: "x", Value: "y"}
		}
		for j := range one {
			if j > i && !slices.Equal(one[j].L, want[j].L) {
				t.Errorf("part %d is written into through part %d", j, i)
			}
		}
	}
	if two, _ := dn.Parse(s); !equal(two, want) {
		t.Error("an answer is kept")
	}
}

// R3: what is handed in is not written into.
func TestArgumentsStay(t *testing.T) {
	d := slices.Repeat(name(rdn("cn", "a,b", "sn", "c")), 4)
	room := append(slices.Clone(d), rdn("z", "z"))[:4]
	dn.Print(room)
	dn.Right(room)
	dn.Same(room, d)
	dn.IsUnder(room, d[1:])
	if !equal(room[:5], append(slices.Clone(d), rdn("z", "z"))) {
		t.Error("an argument is changed")
	}
}

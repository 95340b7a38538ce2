package filt_test

import (
	"math/rand"
	"regexp"
	"slices"
	"strings"
	"testing"

	"latiner/api"
	"latiner/esc"
	"latiner/filt"
)

func equal(name, value string) api.Filter {
	return api.Filter{Kind: api.Equal, Name: name, Value: value}
}

func of(kind int, l ...api.Filter) api.Filter { return api.Filter{Kind: kind, L: l} }

// subs is one of what it begins with, what it ends with, and what comes between.
func subs(name, value, final string, between ...string) api.Filter {
	return api.Filter{Kind: api.Subs, Name: name, Value: value, Final: final, Any: between}
}

func letters(n int) string { return strings.Repeat("a", n) }

// nested is a filter in so many others.
func nested(kind, n int, f api.Filter) api.Filter {
	for range n {
		f = of(kind, f)
	}
	return f
}

func nestedText(sign string, n int, s string) string {
	return strings.Repeat("("+sign, n) + s + strings.Repeat(")", n)
}

// filters are right ones, beside their texts.
func filters() map[string]api.Filter {
	one := equal("a", "1")
	full := subs(letters(20)+";"+letters(9), strings.Repeat("*", 60), strings.Repeat("\xff", 60), strings.Repeat("(", 60), letters(60), "\x00", "1")
	fullText := "(" + letters(20) + ";" + letters(9) + "=" + strings.Repeat(`\2a`, 60) + "*" + strings.Repeat(`\28`, 60) + "*" + letters(60) + `*\00*1*` + strings.Repeat(`\ff`, 60) + ")"
	return map[string]api.Filter{
		`(a=1)`:              one,
		`(a=)`:               equal("a", ""),
		`(a>=1)`:             {Kind: api.Greater, Name: "a", Value: "1"},
		`(a<=1)`:             {Kind: api.Less, Name: "a", Value: "1"},
		`(a~=1)`:             {Kind: api.Approx, Name: "a", Value: "1"},
		`(a>=)`:              {Kind: api.Greater, Name: "a"},
		`(a<=)`:              {Kind: api.Less, Name: "a"},
		`(a~=)`:              {Kind: api.Approx, Name: "a"},
		`(a>==)`:             {Kind: api.Greater, Name: "a", Value: "="},
		`(a>=>=)`:            {Kind: api.Greater, Name: "a", Value: ">="},
		`(a=>=)`:             equal("a", ">="),
		`(a==)`:              equal("a", "="),
		`(a=<~>&|!)`:         equal("a", "<~>&|!"),
		`(a= 1 )`:            equal("a", " 1 "),
		`(a=b=c)`:            equal("a", "b=c"),
		`(a=\2a)`:            equal("a", "*"),
		`(a=\2a\28\29\5c)`:   equal("a", `*()\`),
		`(a>=\2a)`:           {Kind: api.Greater, Name: "a", Value: "*"},
		`(a=\00\c3\a9\ff)`:   equal("a", "\x00é\xff"),
		`(a=*)`:              {Kind: api.Present, Name: "a"},
		`(cn;lang-de;x=*)`:   {Kind: api.Present, Name: "cn;lang-de;x"},
		`(2.5.4.3;x-1=b)`:    equal("2.5.4.3;x-1", "b"),
		`(A-=b)`:             equal("A-", "b"),
		`(a=x*)`:             subs("a", "x", ""),
		`(a=*x)`:             subs("a", "", "x"),
		`(a=*x*)`:            subs("a", "", "", "x"),
		`(a=x*y)`:            subs("a", "x", "y"),
		`(a=x*y*z)`:          subs("a", "x", "z", "y"),
		`(a=*x*y)`:           subs("a", "", "y", "x"),
		`(a=x*y*)`:           subs("a", "x", "", "y"),
		`(a=*1*2*3*4*)`:      subs("a", "", "", "1", "2", "3", "4"),
		`(a=0*1*2*3*4*5)`:    subs("a", "0", "5", "1", "2", "3", "4"),
		`(a=\2a*\2a*\2a)`:    subs("a", "*", "*", "*"),
		`(a==*=)`:            subs("a", "=", "="),
		`(a=>*)`:             subs("a", ">", ""),
		`(&(a=1))`:           of(api.And, one),
		`(|(a=1))`:           of(api.Or, one),
		`(!(a=1))`:           of(api.Not, one),
		`(&(a=1)(a=1))`:      of(api.And, one, one),
		`(&(a=1)(!(b=x*y)))`: of(api.And, one, of(api.Not, subs("b", "x", "y"))),
		`(|(&(a=1)(b=2))(!(c=*))(d~=3))`: of(api.Or, of(api.And, one, equal("b", "2")),
			of(api.Not, api.Filter{Kind: api.Present, Name: "c"}), api.Filter{Kind: api.Approx, Name: "d", Value: "3"}),
		`(&(&(a=1))(a=1))`:                          of(api.And, of(api.And, one), one),
		`(&(a=1)(&(a=1)))`:                          of(api.And, one, of(api.And, one)),
		"(&" + strings.Repeat("(a=1)", 8) + ")":     of(api.And, slices.Repeat([]api.Filter{one}, 8)...),
		"(|" + strings.Repeat("(a=1)", 8) + ")":     of(api.Or, slices.Repeat([]api.Filter{one}, 8)...),
		nestedText("!", 5, "(a=1)"):                 nested(api.Not, 5, one),
		nestedText("&", 5, fullText):                nested(api.And, 5, full),
		"(" + letters(20) + "=" + letters(60) + ")": equal(letters(20), letters(60)),
		"(&" + nestedText("|", 4, "(a=1)") + "(a=1)" + nestedText("!", 4, "(b=2)") + ")": of(api.And, nested(api.Or, 4, one), one, nested(api.Not, 4, equal("b", "2"))),
	}
}

// wrongFilters are not right, each for one cause.
func wrongFilters() map[string]api.Filter {
	one := equal("a", "1")
	all := map[string]api.Filter{
		"nothing":              {},
		"kind -1":              {Kind: -1, Name: "a"},
		"kind 9":               {Kind: 9, Name: "a"},
		"kind 9 of filters":    of(9, one),
		"kind 256":             of(256, one),
		"the least kind":       {Kind: -1 << 63, Name: "a"},
		"not of two":           of(api.Not, one, one),
		"not of many":          of(api.Not, slices.Repeat([]api.Filter{one}, 100000)...),
		"subs of nothing":      subs("a", "", ""),
		"subs of none between": {Kind: api.Subs, Name: "a", Any: []string{}},
		"five between":         subs("a", "x", "", "1", "2", "3", "4", "5"),
		"many between":         subs("a", "x", "", slices.Repeat([]string{"b"}, 100000)...),
		"an empty one":         subs("a", "x", "y", ""),
		"an empty one, last":   subs("a", "x", "y", "1", "2", "3", ""),
		"an empty one, first":  subs("a", "", "", "", "1"),
		"61 between":           subs("a", "", "", letters(61)),
		"61 between, last":     subs("a", "", "", "1", letters(61)),
		"61 behind":            subs("a", "", letters(61)),
		"a value of Present":   {Kind: api.Present, Name: "a", Value: "x"},
		"7 deep":               nested(api.Not, 6, one),
		"7 deep, last":         of(api.And, one, nested(api.Or, 5, one)),
		"7 deep, first":        of(api.And, nested(api.Or, 5, one), one),
		"60000 deep":           nested(api.Not, 60000, one),
		"60000 deep, no names": nested(api.And, 60000, api.Filter{}),
		"a list in a value":    {Kind: api.Equal, Name: "a", L: []api.Filter{one}},
	}
	for _, kind := range []int{api.And, api.Or, api.Not} {
		sign := string(rune('0' + kind))
		all[sign+" of none"] = of(kind)
		all[sign+" with a name"] = api.Filter{Kind: kind, Name: "a", L: []api.Filter{one}}
		all[sign+" with a value"] = api.Filter{Kind: kind, Value: "a", L: []api.Filter{one}}
		all[sign+" with what ends"] = api.Filter{Kind: kind, Final: "a", L: []api.Filter{one}}
		all[sign+" with what is between"] = api.Filter{Kind: kind, Any: []string{"a"}, L: []api.Filter{one}}
		all[sign+" with an empty between"] = api.Filter{Kind: kind, Any: []string{""}, L: []api.Filter{one}}
		all[sign+" of nine"] = of(kind, slices.Repeat([]api.Filter{one}, 9)...)
		all[sign+" of a wrong one"] = of(kind, equal("", "1"))
		all[sign+" of one without a kind"] = of(kind, api.Filter{Kind: 9, Name: "a"})
	}
	for _, kind := range []int{api.And, api.Or} {
		sign := string(rune('0' + kind))
		all[sign+" of a wrong one, last"] = of(kind, one, one, equal("1", "1"))
		all[sign+" of a wrong one, first"] = of(kind, of(api.Not, equal("1", "1")), one)
		all[sign+" of many"] = of(kind, slices.Repeat([]api.Filter{one}, 100000)...)
	}
	for _, kind := range []int{api.Equal, api.Greater, api.Less, api.Approx, api.Present, api.Subs} {
		sign := string(rune('0' + kind))
		value := "x"
		if kind == api.Present {
			value = ""
		}
		right := api.Filter{Kind: kind, Name: "a", Value: value}
		put := func(why string, change func(*api.Filter)) {
			f := right
			change(&f)
			all[sign+" "+why] = f
		}
		put("without a name", func(f *api.Filter) { f.Name = "" })
		put("with a wrong name", func(f *api.Filter) { f.Name = "a b" })
		put("with a wrong option", func(f *api.Filter) { f.Name = "a;" })
		put("with a long name", func(f *api.Filter) { f.Name = letters(21) })
		put("with long options", func(f *api.Filter) { f.Name = letters(20) + ";" + letters(10) })
		put("with a very long name", func(f *api.Filter) { f.Name = letters(1000000) })
		put("with a value of 61", func(f *api.Filter) { f.Value = letters(61) })
		put("with a very long value", func(f *api.Filter) { f.Value = letters(1000000) })
		put("with a filter", func(f *api.Filter) { f.L = []api.Filter{one} })
		if kind != api.Subs {
			put("with what ends", func(f *api.Filter) { f.Final = "a" })
			put("with what is between", func(f *api.Filter) { f.Any = []string{"a"} })
			put("with an empty between", func(f *api.Filter) { f.Any = []string{""} })
		}
	}
	return all
}

// P8.1
func TestFiltersAreRightAndPrinted(t *testing.T) {
	for want, f := range filters() {
		if !filt.Right(f) {
			t.Errorf("not right: %.60q", want)
		}
		if s, e := filt.Print(f); s != want || e != api.OK {
			t.Errorf("Print = %.60q, %d; want %.60q", s, e, want)
		}
	}
	empty := api.Filter{Kind: api.Equal, Name: "a", Any: []string{}, L: []api.Filter{}}
	if s, e := filt.Print(empty); s != "(a=)" || e != api.OK || !filt.Right(empty) {
		t.Errorf("with empty lists: %q, %d", s, e)
	}
}

// P8.1, P8.2
func TestWrongFiltersAreRefused(t *testing.T) {
	for why, f := range wrongFilters() {
		if filt.Right(f) {
			t.Errorf("%s: right", why)
		}
		if s, e := filt.Print(f); s != "" || e != api.ErrFilter {
			t.Errorf("%s: Print = %.40q, %d; want ErrFilter", why, s, e)
		}
		if l := filt.Names(f); len(l) != 0 {
			t.Errorf("%s: Names = %.40q", why, l)
		}
		if in := of(api.And, equal("a", "1"), f); filt.Right(in) || len(filt.Names(in)) != 0 {
			t.Errorf("%s: right in another one", why)
		}
	}
}

// A list that is in itself has no end, but what is too deep is known early.
func TestAFilterInItself(t *testing.T) {
	for _, kind := range []int{api.And, api.Or, api.Not, api.Equal} {
		n := 8
		if kind == api.Not {
			n = 1
		}
		l := make([]api.Filter, n)
		for i := range l {
			l[i] = of(kind, l...)
		}
		if s, e := filt.Print(l[0]); s != "" || e != api.ErrFilter || filt.Right(l[0]) || len(filt.Names(l[0])) != 0 {
			t.Errorf("kind %d: Print = %.40q, %d", kind, s, e)
		}
	}
}

// P8.1, P8.3
func TestFiltersAreReadFromTheirTexts(t *testing.T) {
	for s, want := range filters() {
		if f, e := filt.Parse(s); !alike(f, want) || e != api.OK {
			t.Errorf("Parse(%.60q) = %v, %d; want %v", s, f, e, want)
		}
	}
}

// P8.1, P8.3
func TestTextsThatAreNotPrintedSo(t *testing.T) {
	for s, want := range map[string]string{
		"(a=\xc3\xa9)": `(a=\c3\a9)`,
		`(a=\C3\A9)`:   `(a=\c3\a9)`,
		`(a=\41*\2A)`:  `(a=A*\2a)`,
		"(a=\n)":       `(a=\0a)`,
		`(a=\3d)`:      `(a==)`,
		`(a=\3e*\7e)`:  `(a=>*~)`,
		`(a>=\31)`:     `(a>=1)`,
		`(!(a=\61))`:   `(!(a=a))`,
		"(a=\xc3\xa9*" + strings.Repeat(`\61`, 60) + `*\2B)`: `(a=\c3\a9*` + letters(60) + `*+)`,
	} {
		f, e := filt.Parse(s)
		if u, again := filt.Print(f); e != api.OK || u != want || again != api.OK {
			t.Errorf("%q: %d, %q, %d; want %q", s, e, u, again, want)
		}
		checkText(t, s)
	}
}

// P8.1
func TestWrongTextsAreRefused(t *testing.T) {
	for _, s := range []string{
		// No signs around it, or more than these.
		``, `(`, `)`, `()`, `a=b`, `a=b)`, `(a=b`, `(a=b))`, `((a=b)`, `((a=b))`, `(a=b)(c=d)`, `(a=b) `, ` (a=b)`, "(a=b)\n", `(a=b)x`, `)(a=b)`, `)a=b(`, `(a=b)(`, `(&(a=b)`, `(&(a=b`, `(&(a=b)(`, `(&(a=b)c`, `(&(a=b))(c=d)`, `(&(a=b)))`, `&(a=b)`, `!(a=b)`,
		// No filters where they ought to be.
		`(&)`, `(|)`, `(!)`, `(&`, `(|`, `(!`, `(&(&))`, `(&())`, `(& (a=b))`, `(&(a=b) (c=d))`, `(&(a=b) )`, `( &(a=b))`, `(&a=b)`, `(!a=b)`, `(|a=b)`, `(&&(a=b))`, `(!!(a=b))`, `(!(a=b)(c=d))`, `(!(a=b)c=d)`, `(&(a=b)c=d)`, `(&(a=b)c=d(e=f))`, `(&(a=b)(c))`, `(&(a)(c=d))`, `(&(a=b),(c=d))`, `(=(a=b))`, `(*(a=b))`, `(>=(a=b))`,
		// No name.
		`(a)`, `(=)`, `(=b)`, `(>=b)`, `(<=b)`, `(~=b)`, `(=*)`, `(=*b)`, `( a=b)`, `(a =b)`, `(a >=b)`, `(a> =b)`, `(a>>=b)`, `(a<>=b)`, `(a>)`, `(a>b)`, `(a~b)`, `(a:=b)`, `(a:dn:=b)`, `(a!=b)`, `(*=a)`, `(a*=b)`, `(1=b)`, `(1.02=b)`, `(a;=b)`, `(;a=b)`, `(a;b_=c)`, `(a_b=c)`, `(\61=b)`, `(a\3d=b)`, "(\xc3\xa9=b)", "(a;\xc3\xa9=b)", "(a\x00=b)",
		"(" + letters(21) + "=b)", "(" + letters(20) + ";" + letters(10) + "=b)", "(" + letters(100000) + "=b)", "(" + letters(100000),
		// No value.
		`(a=(b)`, `(a=b(c)`, `(a>=(b)`, `(a=\)`, `(a=\\)`, `(a=\4)`, `(a=\4g)`, `(a=\*)`, `(a=\()`, `(a=\))`, `(a=b\)`, `(a=\4*1)`, `(a=4\*1)`, `(a>=*)`, `(a>=b*)`, `(a<=*b)`, `(a~=b*c)`, "(a=b\x00)", "(a=\xff)", "(a>=\xff)", "(a=\xc3*\xa9)", "(a=x*\xff*y)", "(a=x*\xff)", "(a=\xff*x)",
		"(a=" + letters(61) + ")", "(a~=" + letters(61) + ")", "(a=" + strings.Repeat(`\61`, 61) + ")", "(a=" + strings.Repeat("\xc3\xa9", 30) + "a)", "(a=" + letters(61) + "*)", "(a=*" + letters(61) + ")", "(a=*" + letters(61) + "*)", "(a=" + letters(100000) + ")",
		// Nothing between, or too many.
		`(a=**)`, `(a=***)`, `(a=x**)`, `(a=**x)`, `(a=x**y)`, `(a=*x**)`, `(a=**x*)`, `(a=1*2*3*4*5*6*7)`, `(a=*2*3*4*5*6*)`, "(a=" + strings.Repeat("*", 100000) + ")", "(a=" + strings.Repeat("*x", 100000) + ")",
		"(&" + strings.Repeat("(a=b)", 9) + ")", "(|" + strings.Repeat("(a=b)", 9) + ")", "(&" + strings.Repeat("(a=b)", 100000) + ")", "(!" + strings.Repeat("(a=b)", 100000) + ")", "(|(c=d)(&" + strings.Repeat("(a=b)", 9) + "))",
		nestedText("!", 6, "(a=1)"), nestedText("&", 6, "(a=1)"), "(&(a=1)" + nestedText("|", 5, "(a=1)") + ")", "(&" + nestedText("|", 5, "(a=1)") + "(a=1))", nestedText("&", 60000, "(a=1)"), strings.Repeat("(&", 1000000), strings.Repeat("(", 1000000), strings.Repeat("(!(", 1000000), nestedText("", 1000000, ""),
	} {
		if f, e := filt.Parse(s); !alike(f, api.Filter{}) || e != api.ErrFilter {
			t.Errorf("Parse(%.60q) = %v, %d; want ErrFilter", s, f, e)
		}
	}
}

// The chapter's words on names, as a pattern.
var nameText = regexp.MustCompile(`^([A-Za-z][A-Za-z0-9-]*|(?:0|[1-9][0-9]*)(?:\.(?:0|[1-9][0-9]*))+)((?:;[A-Za-z0-9-]+)*)\z`)

func mayBeName(s string) bool {
	parts := nameText.FindStringSubmatch(s)
	return parts != nil && len(parts[1]) <= 20 && len(s) <= 30
}

// P8.1
func TestIsName(t *testing.T) {
	for s, want := range map[string]bool{
		"a": true, "cn": true, "a-": true, "1.2": true, "0.0": true, "a;b": true, "a;b;c-1": true, "a;-": true, "a;1": true, "a;A;Z;9;--": true, "1.2;x": true, "a;a;a": true,
		letters(20): true, letters(20) + ";" + letters(9): true, "a;" + letters(28): true, "a" + strings.Repeat(";b", 14) + "1": true,
		"": false, ";": false, ";a": false, "a;": false, "a;;": false, "a;;b": false, ";;a": false, "a;b;": false, "a;b_": false, "a;b.c": false, "a;b=": false, "a; b": false, "a;b ": false, "a ;b": false, "1;x": false, "1.;x": false, "-;x": false, "a;é": false, "é;a": false, "a,b": false, "a:b": false, "a;b\n": false, "a;b\x00": false, "a\n": false, "*": false,
		"a;@": false, "a;[": false, "a;`": false, "a;{": false, "a;/": false, "a;:": false,
		letters(21): false, letters(21) + ";b": false, letters(20) + ";" + letters(10): false, "a;" + letters(29): false, "a" + strings.Repeat(";b", 15): false, letters(1000000): false, "a" + strings.Repeat(";", 1000000): false, "a" + strings.Repeat(";b", 1000000): false,
	} {
		if filt.IsName(s) != want {
			t.Errorf("IsName(%.40q) = %v", s, !want)
		}
	}
}

// P8.1
func TestEveryShortName(t *testing.T) {
	for i := range 256 {
		one := string([]byte{byte(i)})
		checkName(t, one)
		for j := range 256 {
			two := one + string([]byte{byte(j)})
			checkName(t, two)
			checkName(t, "a;"+two)
			checkName(t, "1.2"+two)
		}
	}
	every("aZ09-;. ", "", 6, func(s string) { checkName(t, s) })
	for n := range 35 {
		for at := range n {
			checkName(t, letters(at)+";"+letters(n-at))
		}
	}
}

func checkName(t *testing.T, s string) {
	t.Helper()
	want := mayBeName(s)
	if filt.IsName(s) != want {
		t.Fatalf("IsName(%q) = %v", s, !want)
	}
	if filt.Right(equal(s, "")) != want || filt.Right(subs(s, "x", "")) != want {
		t.Fatalf("Right of the name %q = %v", s, !want)
	}
}

// every calls a function with each text of up to so many of some bytes.
func every(some, s string, left int, call func(string)) {
	call(s)
	if left == 0 {
		return
	}
	for i := range len(some) {
		every(some, s+some[i:i+1], left-1, call)
	}
}

// depth says plainly how deep a filter is.
func depth(f api.Filter) int {
	deepest := 0
	for _, one := range f.L {
		deepest = max(deepest, depth(one))
	}
	return deepest + 1
}

// isRight says plainly whether a filter is right, but for how deep it is.
func isRight(f api.Filter) bool {
	count := len(f.L)
	for _, one := range f.L {
		if !isRight(one) {
			return false
		}
	}
	for _, s := range f.Any {
		if s == "" || len(s) > 60 {
			return false
		}
	}
	noPieces := len(f.Any) == 0 && f.Final == ""
	named := count == 0 && mayBeName(f.Name) && len(f.Value) <= 60
	switch f.Kind {
	case 0, 1:
		return count >= 1 && count <= 8 && noPieces && f.Name == "" && f.Value == ""
	case 2:
		return count == 1 && noPieces && f.Name == "" && f.Value == ""
	case 3, 5, 6, 8:
		return named && noPieces
	case 7:
		return named && noPieces && f.Value == ""
	case 4:
		return named && len(f.Any) <= 4 && len(f.Final) <= 60 && (f.Value != "" || !noPieces)
	}
	return false
}

// plainRead says plainly what a text tells, and what stands behind it.
func plainRead(s string) (api.Filter, string, bool) {
	if !strings.HasPrefix(s, "(") {
		return api.Filter{}, "", false
	}
	s = s[1:]
	if s != "" && strings.Contains("&|!", s[:1]) {
		f := api.Filter{Kind: strings.Index("&|!", s[:1])}
		s = s[1:]
		for strings.HasPrefix(s, "(") {
			one, behind, ok := plainRead(s)
			if !ok {
				return api.Filter{}, "", false
			}
			f.L, s = append(f.L, one), behind
		}
		if !strings.HasPrefix(s, ")") {
			return api.Filter{}, "", false
		}
		return f, s[1:], true
	}
	taken, behind, closed := strings.Cut(s, ")")
	name, told, parted := strings.Cut(taken, "=")
	if !closed || !parted {
		return api.Filter{}, "", false
	}
	f, ok := plainCondition(name, told)
	return f, behind, ok
}

func plainCondition(name, told string) (api.Filter, bool) {
	for _, c := range []struct {
		sign string
		kind int
	}{{">", 5}, {"<", 6}, {"~", 8}} {
		if strings.HasSuffix(name, c.sign) {
			v, e := esc.ReadFilter(told)
			return api.Filter{Kind: c.kind, Name: strings.TrimSuffix(name, c.sign), Value: v}, e == api.OK
		}
	}
	if told == "*" {
		return api.Filter{Kind: 7, Name: name}, true
	}
	cut := strings.Split(told, "*")
	for i, piece := range cut {
		v, e := esc.ReadFilter(piece)
		if e != api.OK {
			return api.Filter{}, false
		}
		cut[i] = v
	}
	if len(cut) == 1 {
		return api.Filter{Kind: 3, Name: name, Value: cut[0]}, true
	}
	return api.Filter{Kind: 4, Name: name, Value: cut[0], Final: cut[len(cut)-1], Any: cut[1 : len(cut)-1]}, true
}

// plainPrint says plainly what is printed of a filter.
func plainPrint(f api.Filter) string {
	s := "("
	switch f.Kind {
	case 0, 1, 2:
		s += "&|!"[f.Kind : f.Kind+1]
		for _, one := range f.L {
			s += plainPrint(one)
		}
	case 3:
		s += f.Name + "=" + esc.Filter(f.Value)
	case 4:
		s += f.Name + "=" + esc.Filter(f.Value) + "*"
		for _, x := range f.Any {
			s += esc.Filter(x) + "*"
		}
		s += esc.Filter(f.Final)
	case 5:
		s += f.Name + ">=" + esc.Filter(f.Value)
	case 6:
		s += f.Name + "<=" + esc.Filter(f.Value)
	case 7:
		s += f.Name + "=*"
	case 8:
		s += f.Name + "~=" + esc.Filter(f.Value)
	}
	return s + ")"
}

func plainNames(f api.Filter) []string {
	if len(f.L) == 0 {
		return []string{f.Name}
	}
	var l []string
	for _, one := range f.L {
		l = append(l, plainNames(one)...)
	}
	return l
}

// alike holds two filters against each other without the package's own Same; nil and empty lists are one.
func alike(a, b api.Filter) bool {
	if a.Kind != b.Kind || a.Name != b.Name || a.Value != b.Value || a.Final != b.Final || len(a.Any) != len(b.Any) || len(a.L) != len(b.L) {
		return false
	}
	for i := range a.Any {
		if a.Any[i] != b.Any[i] {
			return false
		}
	}
	for i := range a.L {
		if !alike(a.L[i], b.L[i]) {
			return false
		}
	}
	return true
}

// checkText holds what is read from a text against the chapter's words, prints it, and reads it again; it tells whether it may be read.
func checkText(t *testing.T, s string) bool {
	t.Helper()
	f, e := filt.Parse(s)
	want, behind, ok := plainRead(s)
	if !ok || behind != "" || depth(want) > 6 || !isRight(want) {
		if !alike(f, api.Filter{}) || e != api.ErrFilter {
			t.Fatalf("Parse(%q) = %v, %d; want ErrFilter", s, f, e)
		}
		return false
	}
	if !alike(f, want) || e != api.OK || !filt.Right(f) {
		t.Fatalf("Parse(%q) = %v, %d; want %v", s, f, e, want)
	}
	checkRight(t, f)
	return true
}

// checkRight prints a filter that is right, and reads it again.
func checkRight(t *testing.T, f api.Filter) {
	t.Helper()
	u, e := filt.Print(f)
	if u != plainPrint(f) || e != api.OK {
		t.Fatalf("Print(%v) = %q, %d; want %q", f, u, e, plainPrint(f))
	}
	if again, e := filt.Parse(u); !alike(again, f) || !filt.Same(again, f) || e != api.OK {
		t.Fatalf("Parse(%q) = %v, %d; want %v", u, again, e, f)
	}
	if l := filt.Names(f); !slices.Equal(l, plainNames(f)) {
		t.Fatalf("Names(%v) = %q; want %q", f, l, plainNames(f))
	}
}

// P8.1, P8.3
func TestEveryShortText(t *testing.T) {
	every(`(a=*)&!>`, "", 6, func(s string) { checkText(t, s) })
	every(`a=*>~)(`, "(a", 6, func(s string) { checkText(t, s+")") })
	every(`\2a*=`, "(a=", 6, func(s string) { checkText(t, s+")") })
	every(`ab*)(&|!=`, "(|(a=", 5, func(s string) { checkText(t, s+"))") })
}

// P8.1, P8.3
func TestEveryTextOfPieces(t *testing.T) {
	pieces := []string{"(&", "(|", "(!", "(a=1)", "(b=x*y)", ")", "(c=*)"}
	var all func(s string, left int)
	count := map[bool]int{}
	all = func(s string, left int) {
		count[checkText(t, s)]++
		for i := range pieces {
			if left > 0 {
				all(s+pieces[i], left-1)
			}
		}
	}
	all("", 6)
	if count[true] < 100 || count[false] < 100 {
		t.Fatalf("too few of a kind: %v", count)
	}
}

// P8.1, P8.3
func TestEveryByteAtEveryPlace(t *testing.T) {
	for _, s := range []string{``, `(a=1)`, `(&(a=1)(!(b=x*y)))`, `(cn;x>=\2a)`, "(|(1.2=\xc3\xa9*z*)(a=*)(b~=))"} {
		for at := range len(s) + 1 {
			for i := range 256 {
				b := string([]byte{byte(i)})
				checkText(t, s[:at]+b+s[at:])
				if at < len(s) {
					checkText(t, s[:at]+b+s[at+1:])
					checkText(t, s[:at]+s[at+1:])
				}
			}
		}
	}
}

// anyText is a value, or a piece of one, mostly short, now and then about as long as it may be.
func anyText(r *rand.Rand) string {
	const some = "ab*()\\=<>~&|! \x00\xffé"
	s := make([]byte, r.Intn(5))
	if r.Intn(80) == 0 {
		s = make([]byte, 59+r.Intn(3))
	}
	for i := range s {
		s[i] = some[r.Intn(len(some))]
	}
	return string(s)
}

// anyFilter is one, right or not, that is at most so deep.
func anyFilter(r *rand.Rand, deep int) api.Filter {
	names := []string{"a", "cn", "1.2", "a;b", "A-1;x;y-", letters(20) + ";" + letters(9), letters(21), "", "a;", "1"}
	f := api.Filter{Kind: r.Intn(9)}
	if r.Intn(200) == 0 {
		f.Kind = r.Intn(14) - 3
	}
	inner := f.Kind >= 0 && f.Kind <= 2 && deep > 1
	wild := func() bool { return r.Intn(300) == 0 }
	if inner != wild() {
		count := 1
		if f.Kind != api.Not {
			count += r.Intn(3)
		}
		if r.Intn(60) == 0 {
			count = r.Intn(10)
		}
		for range count {
			f.L = append(f.L, anyFilter(r, deep-1))
		}
	}
	if !inner != wild() {
		f.Name = names[r.Intn(6)]
		if r.Intn(100) == 0 {
			f.Name = names[r.Intn(len(names))]
		}
		f.Kind = max(f.Kind, api.Equal)
	}
	if (!inner && f.Kind != api.Present) != wild() {
		f.Value = anyText(r)
	}
	if (f.Kind == api.Subs) != wild() {
		f.Final = anyText(r)
		for range r.Intn(5 + r.Intn(2)) {
			f.Any = append(f.Any, "x"+anyText(r))
		}
		if wild() {
			f.Any = append(f.Any, "")
		}
	}
	return f
}

// P8.1, P8.2, P8.3
func TestFiltersOfAnyKind(t *testing.T) {
	r := rand.New(rand.NewSource(8))
	count, deeps := map[bool]int{}, map[int]int{}
	for range 40000 {
		f := anyFilter(r, 1+r.Intn(8))
		right := isRight(f) && depth(f) <= 6
		count[right]++
		if filt.Right(f) != right {
			t.Fatalf("Right(%v) = %v", f, !right)
		}
		if right {
			deeps[depth(f)]++
			checkRight(t, f)
			continue
		}
		if s, e := filt.Print(f); s != "" || e != api.ErrFilter || len(filt.Names(f)) != 0 {
			t.Fatalf("Print(%v) = %q, %d; want ErrFilter", f, s, e)
		}
		if isRight(f) { // too deep alone
			checkText(t, plainPrint(f))
		}
	}
	if count[true] < 1000 || count[false] < 1000 || deeps[6] < 100 {
		t.Fatalf("too few of a kind: %v, %v", count, deeps)
	}
}

// P8.1, P8.3
func TestTheGreatestFilter(t *testing.T) {
	f := subs(letters(20)+";"+letters(9), strings.Repeat("\xff", 60), letters(60), letters(60), "1")
	for i := range 5 {
		f = of(i%2, slices.Repeat([]api.Filter{f}, 8)...)
	}
	s, e := filt.Print(f)
	if e != api.OK || !filt.Right(f) {
		t.Fatalf("Print = .., %d", e)
	}
	if again, e := filt.Parse(s); !filt.Same(again, f) || e != api.OK {
		t.Fatalf("Parse = .., %d", e)
	}
	if l := filt.Names(f); len(l) != 8*8*8*8*8 {
		t.Fatalf("%d names", len(l))
	}
}

// some are filters, right or not, all of them different.
func some() []api.Filter {
	one := equal("a", "1")
	return []api.Filter{
		{},
		{Kind: -1},
		{Kind: 9},
		{Name: "a"},
		{Value: "a"},
		{Final: "a"},
		{Any: []string{""}},
		{Any: []string{"", ""}},
		{Any: []string{"a"}},
		{Any: []string{"a", "b"}},
		{Any: []string{"b", "a"}},
		{Any: []string{"ab"}},
		{L: []api.Filter{{}}},
		{L: []api.Filter{{}, {}}},
		{L: []api.Filter{{L: []api.Filter{{}}}}},
		one,
		equal("a", "2"),
		equal("b", "1"),
		equal("A", "1"),
		equal("", "a1"),
		{Kind: api.Greater, Name: "a", Value: "1"},
		{Kind: api.Subs, Name: "a", Value: "1"},
		subs("a", "", "1"),
		subs("a", "", "", "1"),
		subs("a", "1", "1"),
		of(api.And, one),
		of(api.Or, one),
		of(api.Not, one),
		of(api.And, one, one),
		of(api.And, one, equal("a", "2")),
		of(api.And, equal("a", "2"), one),
		of(api.And, of(api.And, one)),
		of(api.And, of(api.Or, one)),
		of(api.And, one, of(api.Or, one)),
		of(api.And, slices.Repeat([]api.Filter{one}, 9)...),
		of(api.And, slices.Repeat([]api.Filter{one}, 10)...),
		nested(api.Not, 6, one),
		nested(api.Not, 7, one),
		nested(api.Not, 7, equal("a", "2")),
		nested(api.Not, 60000, one),
		nested(api.Not, 60000, equal("a", "2")),
	}
}

// P8.1
func TestSame(t *testing.T) {
	left, right := some(), some()
	for i, a := range left {
		for j, b := range right {
			if filt.Same(a, b) != (i == j) {
				t.Errorf("Same of %d and %d = %v", i, j, i != j)
			}
		}
	}
	empty := api.Filter{Any: []string{}, L: []api.Filter{}}
	if !filt.Same(api.Filter{}, empty) || !filt.Same(empty, api.Filter{}) || !filt.Same(of(0, empty), of(0, api.Filter{})) {
		t.Error("nil and empty lists are one")
	}
}

// P8.2
func TestNames(t *testing.T) {
	for s, want := range map[string][]string{
		`(a=1)`:                            {"a"},
		`(a=*)`:                            {"a"},
		`(a>=1)`:                           {"a"},
		`(a<=1)`:                           {"a"},
		`(a~=1)`:                           {"a"},
		`(a=x*)`:                           {"a"},
		`(!(a=1))`:                         {"a"},
		`(&(b=1)(|(a=*)(!(b=x*)))(c>=1))`:  {"b", "a", "b", "c"},
		`(&(a=1)(a=1)(A=1))`:               {"a", "a", "A"},
		`(|(&(z=1)(y;x=2))(1.2~=3)(z<=4))`: {"z", "y;x", "1.2", "z"},
		nestedText("!", 5, "(a=1)"):        {"a"},
	} {
		f, e := filt.Parse(s)
		if l := filt.Names(f); e != api.OK || !slices.Equal(l, want) {
			t.Errorf("Names of %q = %q; want %q", s, l, want)
		}
	}
}

// spoil writes into the lists of a filter, and into their spare room.
func spoil(f *api.Filter) {
	all := f.Any[:cap(f.Any)]
	for i := range all {
		all[i] = "spoilt"
	}
	inner := f.L[:cap(f.L)]
	for i := range inner {
		inner[i] = equal("spoilt", "spoilt")
	}
}

// R3: what is answered is new memory, spare room too.
func TestAnswersShareNothing(t *testing.T) {
	const s = `(&(a=1*2*3*4)(|(b=*5*6*)(c=x*)(d=7*8*9))(e=*f)(&(g=1*2)(h=3*4*5)))`
	want, _ := filt.Parse(s)
	for i := range want.L {
		f, _ := filt.Parse(s)
		spoil(&f.L[i])
		for j := range want.L {
			if j != i && !alike(f.L[j], want.L[j]) {
				t.Errorf("filter %d is written into through filter %d", j, i)
			}
		}
	}
	for i := range want.L[1].L {
		f, _ := filt.Parse(s)
		spoil(&f.L[1].L[i])
		for j := range want.L[1].L {
			if j != i && !alike(f.L[1].L[j], want.L[1].L[j]) {
				t.Errorf("inner filter %d is written into through filter %d", j, i)
			}
		}
	}
	l := filt.Names(want)
	for i := range l[:cap(l)] {
		l[:cap(l)][i] = "spoilt"
	}
	if again, _ := filt.Parse(s); !alike(again, want) || !slices.Equal(filt.Names(want), plainNames(again)) {
		t.Error("an answer is kept")
	}
}

// R3: what is handed in is not written into, nor its spare room.
func TestArgumentsStay(t *testing.T) {
	build := func() api.Filter {
		l := []api.Filter{subs("a", "x", "y", []string{"1", "2", "3"}[:2]...), equal("b", "*"), equal("z", "z")}
		return api.Filter{Kind: api.And, L: l[:2]}
	}
	f, other := build(), build()
	filt.Print(f)
	filt.Right(f)
	filt.Same(f, other)
	filt.Names(f)
	if !alike(api.Filter{L: f.L[:3]}, api.Filter{L: other.L[:3]}) || f.L[0].Any[:3][2] != "3" {
		t.Error("an argument is changed")
	}
}

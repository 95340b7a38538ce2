package utf_test

import (
	"math"
	"slices"
	"strings"
	"testing"

	"latiner/api"
	"latiner/utf"
)

// bytesOf are the bytes of signs, at all the edges where they grow, or where there are none.
var bytesOf = []struct {
	sign  int
	bytes string
}{
	{0, "\x00"},
	{1, "\x01"},
	{97, "a"},
	{0x7f, "\x7f"},
	{0x80, "\xc2\x80"},
	{0xbf, "\xc2\xbf"},
	{0xc0, "\xc3\x80"},
	{0xe9, "\xc3\xa9"},
	{0x7ff, "\xdf\xbf"},
	{0x800, "\xe0\xa0\x80"},
	{0xfff, "\xe0\xbf\xbf"},
	{0x1000, "\xe1\x80\x80"},
	{0x20ac, "\xe2\x82\xac"},
	{0xd7ff, "\xed\x9f\xbf"},
	{0xe000, "\xee\x80\x80"},
	{0xfeff, "\xef\xbb\xbf"},
	{0xfffd, "\xef\xbf\xbd"},
	{0xfffe, "\xef\xbf\xbe"},
	{0xffff, "\xef\xbf\xbf"},
	{0x10000, "\xf0\x90\x80\x80"},
	{0x1f600, "\xf0\x9f\x98\x80"},
	{0x3ffff, "\xf0\xbf\xbf\xbf"},
	{0x40000, "\xf1\x80\x80\x80"},
	{0xfffff, "\xf3\xbf\xbf\xbf"},
	{0x100000, "\xf4\x80\x80\x80"},
	{0x10ffff, "\xf4\x8f\xbf\xbf"},
}

// wrong are texts that begin with no sign's bytes.
var wrong = []string{
	// No first byte.
	"\x80", "\x81a", "\xbf", "\xbf\x80", "\xf8\x88\x80\x80\x80", "\xfc\x84\x80\x80\x80\x80", "\xfe", "\xff", "\xff\xff",
	// More bytes than are needed.
	"\xc0", "\xc0\x80", "\xc0\xaf", "\xc1\xbf", "\xe0\x80\x80", "\xe0\x9f\xbf", "\xf0\x80\x80\x80", "\xf0\x8f\xbf\xbf",
	// No sign's number.
	"\xed\xa0\x80", "\xed\xaf\xbf", "\xed\xb0\x80", "\xed\xbf\xbf", "\xed\xa0\x80\xed\xb0\x80",
	"\xf4\x90\x80\x80", "\xf4\xbf\xbf\xbf", "\xf5\x80\x80\x80", "\xf7\xbf\xbf\xbf",
	// Cut.
	"\xc3", "\xdf", "\xe2", "\xe2\x82", "\xef\xbf", "\xf0", "\xf0\x9f", "\xf0\x9f\x98", "\xf4\x8f\xbf",
	// Something else where a byte is missing.
	"\xc3a", "\xc3\xc3\xa9", "\xe2\x82a", "\xe2a\x82", "\xe2\x28\xa1", "\xe2\x82\xc3\xa9", "\xf0\x9f\x98a", "\xf0\x9f\xc0\x80", "\xef\xbf\x7d", "\xc3\xff",
}

// checkRight holds all that is told of a right text against its signs.
func checkRight(t *testing.T, s string, signs []int) {
	t.Helper()
	if !utf.Right(s) || utf.Bad(s) != -1 {
		t.Errorf("Right(%x), Bad = %v, %d", s, utf.Right(s), utf.Bad(s))
	}
	if l, e := utf.Signs(s); !slices.Equal(l, signs) || e != api.OK {
		t.Errorf("Signs(%x) = %x, %d; want %x", s, l, e, signs)
	}
	if u, e := utf.Text(signs); u != s || e != api.OK {
		t.Errorf("Text(%x) = %x, %d; want %x", signs, u, e, s)
	}
}

// checkWrong holds all that is told of a text that is not right against the place where it is not.
func checkWrong(t *testing.T, s string, at int) {
	t.Helper()
	if utf.Right(s) || utf.Bad(s) != at {
		t.Errorf("Right(%x), Bad = %v, %d; want %d", s, utf.Right(s), utf.Bad(s), at)
	}
	if l, e := utf.Signs(s); len(l) != 0 || e != api.ErrUtf {
		t.Errorf("Signs(%x) = %x, %d; want ErrUtf", s, l, e)
	}
	if !utf.Right(s[:at]) {
		t.Errorf("%x is not right, of %x", s[:at], s)
	}
}

// P4.1
func TestSignsAndTheirBytes(t *testing.T) {
	checkRight(t, "", nil)
	checkRight(t, "", []int{})
	var text string
	var signs []int
	for _, c := range bytesOf {
		checkRight(t, c.bytes, []int{c.sign})
		checkRight(t, c.bytes+c.bytes, []int{c.sign, c.sign})
		text += c.bytes
		signs = append(signs, c.sign)
	}
	checkRight(t, text, signs)
	checkRight(t, strings.Repeat(text, 1000), slices.Repeat(signs, 1000))
}

// P4.1
func TestWrongTexts(t *testing.T) {
	for _, s := range wrong {
		checkWrong(t, s, 0)
		checkWrong(t, "a"+s, 1)
		checkWrong(t, "\x00"+s, 1)
		checkWrong(t, "\xc3\xa9"+s, 2)
		checkWrong(t, "\xef\xbf\xbd"+s, 3)
		checkWrong(t, "a\xf4\x8f\xbf\xbf"+s+s, 5)
		checkWrong(t, "\xed\x9f\xbf"+s+"b", 3)
		checkWrong(t, strings.Repeat("\xc3\xa9", 5000)+s, 10000)
	}
}

// P4.1
func TestTextRefusesWhatIsNoSign(t *testing.T) {
	for _, n := range []int{
		-1, -2, -97, 0xd800, 0xd801, 0xdbff, 0xdc00, 0xdfff, 0x110000, 0x110001, 0x1fffff, 0x200000,
		1 << 31, 1<<31 + 97, 1<<32 - 1, 1 << 32, 1<<32 + 97, -1<<32 + 97, 1 << 62, math.MaxInt, math.MinInt, math.MinInt + 97,
	} {
		for _, l := range [][]int{{n}, {n, 97}, {97, n}, {97, 0x10ffff, n, 98}, {n, n}} {
			if s, e := utf.Text(l); s != "" || e != api.ErrUtf {
				t.Errorf("Text(%x) = %x, %d; want ErrUtf", l, s, e)
			}
		}
	}
}

// plainBytes are a sign's, by sums of the chapter's words.
func plainBytes(n int) string {
	low := func(n int) byte { return byte(0x80 + n%64) }
	switch {
	case n < 0x80:
		return string([]byte{byte(n)})
	case n < 0x800:
		return string([]byte{byte(0xc0 + n/64), low(n)})
	case n < 0x10000:
		return string([]byte{byte(0xe0 + n/4096), low(n / 64), low(n)})
	}
	return string([]byte{byte(0xf0 + n/262144), low(n / 4096), low(n / 64), low(n)})
}

func isSign(n int) bool { return n >= 0 && n < 0xd800 || n > 0xdfff && n <= 0x10ffff }

// P4.1, P4.3
func TestEverySign(t *testing.T) {
	var all []int
	var text strings.Builder
	for n := -100; n < 0x112000; n++ {
		s, e := utf.Text([]int{n})
		if !isSign(n) {
			if s != "" || e != api.ErrUtf {
				t.Fatalf("Text(%x) = %x, %d; want ErrUtf", n, s, e)
			}
			continue
		}
		if s != plainBytes(n) || e != api.OK {
			t.Fatalf("Text(%x) = %x, %d; want %x", n, s, e, plainBytes(n))
		}
		if l, e := utf.Signs(s); !slices.Equal(l, []int{n}) || e != api.OK || !utf.Right(s) || utf.Bad(s) != -1 {
			t.Fatalf("Signs(%x) = %x, %d; want %x", s, l, e, n)
		}
		all = append(all, n)
		text.WriteString(s)
	}
	if l, e := utf.Signs(text.String()); !slices.Equal(l, all) || e != api.OK {
		t.Error("Signs does not tell all signs that stand together")
	}
	if s, e := utf.Text(all); s != text.String() || e != api.OK {
		t.Error("Text does not tell the bytes of all signs together")
	}
}

// reading reads texts by looking all signs' bytes up.
type reading map[string]int

func allSigns() reading {
	signs := reading{}
	for n := range 0x110000 {
		if isSign(n) {
			signs[plainBytes(n)] = n
		}
	}
	return signs
}

// read are a text's signs, and the place where there is none; -1, if it is right.
func (r reading) read(s string) ([]int, int) {
	var l []int
	for at := 0; at < len(s); {
		count := 0
		for k := 1; k <= 4 && at+k <= len(s); k++ {
			if n, ok := r[s[at:at+k]]; ok {
				l = append(l, n)
				count = k
			}
		}
		if count == 0 {
			return nil, at
		}
		at += count
	}
	return l, -1
}

func (r reading) check(t *testing.T, b ...byte) {
	t.Helper()
	s := string(b)
	if l, at := r.read(s); at < 0 {
		checkRight(t, s, l)
	} else {
		checkWrong(t, s, at)
	}
	if t.Failed() {
		t.FailNow()
	}
}

// P4.1, P4.3
func TestTextsOfFewBytes(t *testing.T) {
	signs := allSigns()
	some := []byte{0x00, 0x41, 0x7f, 0x80, 0x8f, 0x90, 0x9f, 0xa0, 0xbf, 0xc0, 0xc1, 0xc2, 0xdf, 0xe0, 0xed, 0xef, 0xf0, 0xf4, 0xf5, 0xff}
	for i := range 256 {
		signs.check(t, byte(i))
		for j := range 256 {
			signs.check(t, byte(i), byte(j))
			for _, k := range some {
				signs.check(t, byte(i), byte(j), k)
			}
		}
		for _, j := range some {
			for _, k := range some {
				for _, l := range some {
					signs.check(t, byte(i), j, k, l)
				}
			}
		}
	}
}

// P4.3
func TestWhatIsToldTellsTheSameText(t *testing.T) {
	for _, a := range bytesOf {
		for _, b := range bytesOf {
			for _, s := range append(wrong, "", a.bytes) {
				s = a.bytes + b.bytes + s
				ahead := s
				if at := utf.Bad(s); at >= 0 {
					ahead = s[:at]
				}
				l, e := utf.Signs(ahead)
				if u, f := utf.Text(l); e != api.OK || f != api.OK || u != ahead || !utf.Right(ahead) {
					t.Errorf("%x: %x, %d; %x, %d", ahead, l, e, u, f)
				}
			}
		}
	}
}

// P4.2
func TestIsSafe(t *testing.T) {
	for s, want := range map[string]bool{
		"": true, "a": true, "a b": true, "a:b": true, "a<b": true, "a:": true, "a<": true, "\x01": true, "\x7f": true, "\t": true,
		"\x01\x7f\t\x0b\x0c\x0e\x1f": true, "a  b": true, ">": true, "\x7f ~": true,
		" ": false, "  ": false, " a": false, "a ": false, "a  ": false, " a ": false, ":": false, ":a": false, "<": false, "<a": false,
		"\n": false, "\r": false, "\x00": false, "a\n": false, "a\rb": false, "a\x00b": false, "\x00a": false, "\na": false,
		"\x80": false, "\xff": false, "a\x80": false, "a\xffb": false, "\xc3\xa9": false, "a\xc3\xa9b": false, "\xef\xbf\xbd": false,
		strings.Repeat("a", 100000): true, strings.Repeat("a", 100000) + " ": false, strings.Repeat("a", 100000) + "\n": false,
	} {
		if utf.IsSafe(s) != want {
			t.Errorf("IsSafe(%.20q) = %v", s, !want)
		}
	}
}

// plainSafe is P4.2's question, word by word.
func plainSafe(b []byte) bool {
	for _, c := range b {
		if c < 0x01 || c > 0x7f || c == 0x0a || c == 0x0d {
			return false
		}
	}
	return len(b) == 0 || b[0] != 0x20 && b[0] != ':' && b[0] != '<' && b[len(b)-1] != 0x20
}

// P4.2
func TestIsSafeOfEveryByteAtEveryPlace(t *testing.T) {
	check := func(b ...byte) {
		if s := string(b); utf.IsSafe(s) != plainSafe(b) {
			t.Errorf("IsSafe(%q) = %v", s, utf.IsSafe(s))
		}
	}
	for i := range 256 {
		c := byte(i)
		check(c)
		check('a', c, 'b')
		for j := range 256 {
			check(c, byte(j))
			check(c, 'a', byte(j))
			check(c, ' ', byte(j))
		}
	}
}

// R3
func TestTextLeavesItsListAlone(t *testing.T) {
	l := []int{97, 233, 98, 99}
	s, e := utf.Text(l[:2])
	if s != "a\xc3\xa9" || e != api.OK || !slices.Equal(l, []int{97, 233, 98, 99}) {
		t.Errorf("%x, %d, %v", s, e, l)
	}
}

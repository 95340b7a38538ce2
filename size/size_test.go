package size_test

import (
	"math"
	"strings"
	"testing"

	"latiner/api"
	"latiner/size"
)

// leastOf are the least bytes of lengths, at all the edges where they grow.
var leastOf = []struct {
	n     int
	bytes string
}{
	{0, "\x00"},
	{1, "\x01"},
	{126, "\x7e"},
	{127, "\x7f"},
	{128, "\x81\x80"},
	{129, "\x81\x81"},
	{200, "\x81\xc8"},
	{255, "\x81\xff"},
	{256, "\x82\x01\x00"},
	{300, "\x82\x01\x2c"},
	{32768, "\x82\x80\x00"},
	{65535, "\x82\xff\xff"},
	{65536, "\x83\x01\x00\x00"},
	{0x123456, "\x83\x12\x34\x56"},
	{16777214, "\x83\xff\xff\xfe"},
	{16777215, "\x83\xff\xff\xff"},
}

var noLengths = []int{-1, -128, 16777216, 16777217, 1 << 31, 1 << 32, 1<<32 + 5, math.MaxInt, math.MinInt}

// P1.1
func TestEncodeTellsLeastBytes(t *testing.T) {
	for _, c := range leastOf {
		if s, e := size.Encode(c.n); s != c.bytes || e != api.OK {
			t.Errorf("Encode(%d) = %x, %d; want %x", c.n, s, e, c.bytes)
		}
	}
}

// P1.1
func TestEncodeRefusesNoLengths(t *testing.T) {
	for _, n := range noLengths {
		if s, e := size.Encode(n); s != "" || e != api.ErrSize {
			t.Errorf("Encode(%d) = %x, %d; want ErrSize", n, s, e)
		}
	}
}

// P1.1
func TestSizeCountsLeastBytes(t *testing.T) {
	for _, c := range leastOf {
		if k, e := size.Size(c.n); k != len(c.bytes) || e != api.OK {
			t.Errorf("Size(%d) = %d, %d; want %d", c.n, k, e, len(c.bytes))
		}
	}
}

// P1.1
func TestSizeRefusesNoLengths(t *testing.T) {
	for _, n := range noLengths {
		if k, e := size.Size(n); k != 0 || e != api.ErrSize {
			t.Errorf("Size(%d) = %d, %d; want ErrSize", n, k, e)
		}
	}
}

// P1.2
func TestDecodeTellsLengths(t *testing.T) {
	for _, c := range []struct {
		s      string
		at     int
		n      int
		behind int
		least  bool
	}{
		{"\x00", 0, 0, 1, true},
		{"\x7f", 0, 127, 1, true},
		{"\x7f\x81\x80", 0, 127, 1, true},
		{"\x7f\x81\x80", 1, 128, 3, true},
		{"\x7f\x81\x05", 2, 5, 3, true},
		{"\x81\x00", 0, 0, 2, false},
		{"\x81\x7f", 0, 127, 2, false},
		{"\x81\x80", 0, 128, 2, true},
		{"\x82\x00\x00", 0, 0, 3, false},
		{"\x82\x00\xff", 0, 255, 3, false},
		{"\x82\x01\x2c", 0, 300, 3, true},
		{"\x83\x00\xff\xff", 0, 65535, 4, false},
		{"\x83\xff\xff\xff", 0, 16777215, 4, true},
		{"\x84\x00\x00\x00\x00", 0, 0, 5, false},
		{"\x84\x00\x00\x00\x7f", 0, 127, 5, false},
		{"\x84\x00\x01\x00\x00", 0, 65536, 5, false},
		{"\x84\x00\xff\xff\xff", 0, 16777215, 5, false},
		{"ab\x84\x00\x12\x34\x56\xff", 2, 0x123456, 7, false},
	} {
		n, behind, e := size.Decode(c.s, c.at)
		if n != c.n || behind != c.behind || e != api.OK {
			t.Errorf("Decode(%x, %d) = %d, %d, %d; want %d, %d", c.s, c.at, n, behind, e, c.n, c.behind)
		}
		if least := size.IsLeast(c.s, c.at); least != c.least {
			t.Errorf("IsLeast(%x, %d) = %v", c.s, c.at, least)
		}
	}
}

// P1.2
func TestDecodeTellsErrors(t *testing.T) {
	for _, c := range []struct {
		s  string
		at int
		e  api.Errno
	}{
		// No place, or no byte there.
		{"", 0, api.ErrShort},
		{"", 1, api.ErrShort},
		{"", -1, api.ErrShort},
		{"\x05", 1, api.ErrShort},
		{"\x05", 2, api.ErrShort},
		{"\x05", -1, api.ErrShort},
		{"\x05", math.MaxInt, api.ErrShort},
		{"\x05", math.MinInt, api.ErrShort},
		{"\x80", -1, api.ErrShort},
		{"\x85", 1, api.ErrShort},
		// First bytes that begin no length, whatever stands behind.
		{"\x80", 0, api.ErrForm},
		{"\x80\x00\x00", 0, api.ErrForm},
		{"\x85", 0, api.ErrForm},
		{"\x85\x00\x00\x00\x00\x01", 0, api.ErrForm},
		{"\x86\x00\x00\x00\x00\x00\x01", 0, api.ErrForm},
		{"\xff", 0, api.ErrForm},
		{"\x05\x80", 1, api.ErrForm},
		// Too few behind the first one: told ahead of a number that is too great.
		{"\x81", 0, api.ErrShort},
		{"\x82\x01", 0, api.ErrShort},
		{"\x83\xff\xff", 0, api.ErrShort},
		{"\x84", 0, api.ErrShort},
		{"\x84\xff\xff\xff", 0, api.ErrShort},
		{"\x05\x82\x01", 1, api.ErrShort},
		// Numbers that are no lengths.
		{"\x84\x01\x00\x00\x00", 0, api.ErrSize},
		{"\x84\x80\x00\x00\x00", 0, api.ErrSize},
		{"\x84\xff\xff\xff\xff", 0, api.ErrSize},
		{"\x05\x84\x01\x00\x00\x00\x05", 1, api.ErrSize},
	} {
		n, behind, e := size.Decode(c.s, c.at)
		if n != 0 || behind != 0 || e != c.e {
			t.Errorf("Decode(%x, %d) = %d, %d, %d; want error %d", c.s, c.at, n, behind, e, c.e)
		}
		if size.IsLeast(c.s, c.at) {
			t.Errorf("IsLeast(%x, %d), though no length is told", c.s, c.at)
		}
	}
}

// P1.2
func TestEveryFirstByte(t *testing.T) {
	for first := range 256 {
		s := string([]byte{byte(first)}) + strings.Repeat("\x00", 4)
		n, behind, e := size.Decode(s, 0)
		var wantN, wantBehind int
		var want api.Errno
		switch {
		case first < 0x80:
			wantN, wantBehind = first, 1
		case first > 0x80 && first <= 0x84:
			wantBehind = 1 + first - 0x80
		default:
			want = api.ErrForm
		}
		if n != wantN || behind != wantBehind || e != want {
			t.Errorf("Decode(%x, 0) = %d, %d, %d", s, n, behind, e)
		}
	}
}

// P1.3
func TestLengthsComeBackFromLeastBytes(t *testing.T) {
	for n := 0; n <= api.MaxSize; n += step(n) {
		s, e := size.Encode(n)
		if k, f := size.Size(n); e != api.OK || f != api.OK || k != len(s) {
			t.Fatalf("Encode(%d) = %x, %d; Size is %d, %d", n, s, e, k, f)
		}
		for _, behind := range []string{"", "\x00", "\x84\xff", s} {
			all := "\x81" + s + behind
			if m, at, g := size.Decode(all, 1); m != n || at != 1+len(s) || g != api.OK || !size.IsLeast(all, 1) {
				t.Fatalf("Decode(%x, 1) = %d, %d, %d; want %d", all, m, at, g, n)
			}
		}
	}
}

// step keeps to every length near the edges, and to some of those between.
func step(n int) int {
	if n < 70000 || n > api.MaxSize-2000 {
		return 1
	}
	return 997
}

// P1.3
func TestNoLengthHasFewerBytes(t *testing.T) {
	check := func(s string) {
		n, behind, e := size.Decode(s, 0)
		if e != api.OK {
			return
		}
		least, f := size.Size(n)
		if f != api.OK || behind < least || size.IsLeast(s, 0) != (behind == least) {
			t.Fatalf("%x tells %d in %d bytes; Size is %d, %d", s, n, behind, least, f)
		}
	}
	for first := 0x7e; first <= 0x85; first++ {
		for i := range 256 {
			for j := range 256 {
				check(string([]byte{byte(first), byte(i), byte(j)}))
				check(string([]byte{byte(first), 0, byte(i), byte(j)}))
				check(string([]byte{byte(first), 0, byte(i), byte(j), 7}))
			}
		}
	}
}

package prim_test

import (
	"math"
	"strings"
	"testing"

	"latiner/api"
	"latiner/prim"
)

// bytesOf are the bytes of numbers, at all the edges where they grow.
var bytesOf = []struct {
	n     int
	bytes string
}{
	{0, "\x00"},
	{1, "\x01"},
	{5, "\x05"},
	{127, "\x7f"},
	{128, "\x00\x80"},
	{129, "\x00\x81"},
	{255, "\x00\xff"},
	{256, "\x01\x00"},
	{300, "\x01\x2c"},
	{32767, "\x7f\xff"},
	{32768, "\x00\x80\x00"},
	{65535, "\x00\xff\xff"},
	{65536, "\x01\x00\x00"},
	{8388607, "\x7f\xff\xff"},
	{8388608, "\x00\x80\x00\x00"},
	{16777215, "\x00\xff\xff\xff"},
	{16777216, "\x01\x00\x00\x00"},
	{0x12345678, "\x12\x34\x56\x78"},
	{2147483646, "\x7f\xff\xff\xfe"},
	{api.MaxInt, "\x7f\xff\xff\xff"},
	{-1, "\xff"},
	{-2, "\xfe"},
	{-127, "\x81"},
	{-128, "\x80"},
	{-129, "\xff\x7f"},
	{-256, "\xff\x00"},
	{-257, "\xfe\xff"},
	{-32768, "\x80\x00"},
	{-32769, "\xff\x7f\xff"},
	{-65536, "\xff\x00\x00"},
	{-8388608, "\x80\x00\x00"},
	{-8388609, "\xff\x7f\xff\xff"},
	{-16777216, "\xff\x00\x00\x00"},
	{-2147483647, "\x80\x00\x00\x01"},
	{api.MinInt, "\x80\x00\x00\x00"},
}

// P3.1
func TestIntTellsBytes(t *testing.T) {
	for _, c := range bytesOf {
		if s, e := prim.Int(c.n); s != c.bytes || e != api.OK {
			t.Errorf("Int(%d) = %x, %d; want %x", c.n, s, e, c.bytes)
		}
	}
}

// P3.1
func TestIntRefusesNoNumbers(t *testing.T) {
	for _, n := range []int{
		api.MaxInt + 1, api.MaxInt + 2, api.MinInt - 1, api.MinInt - 2,
		1<<32 - 1, 1 << 32, 1<<32 + 5, -1 << 32, -1<<32 - 1, 1 << 39, -1 << 40,
		math.MaxInt, math.MinInt,
	} {
		if s, e := prim.Int(n); s != "" || e != api.ErrNumber {
			t.Errorf("Int(%d) = %x, %d; want ErrNumber", n, s, e)
		}
	}
}

// P3.1
func TestReadIntTellsNumbers(t *testing.T) {
	for _, c := range bytesOf {
		if n, e := prim.ReadInt(c.bytes); n != c.n || e != api.OK {
			t.Errorf("ReadInt(%x) = %d, %d; want %d", c.bytes, n, e, c.n)
		}
	}
}

// P3.1
func TestReadIntRefusesWhatIsNoNumbersBytes(t *testing.T) {
	for _, s := range []string{
		"",
		// A byte ahead that tells nothing.
		"\x00\x00", "\x00\x01", "\x00\x7f", "\xff\xff", "\xff\x80", "\xff\xfe",
		"\x00\x00\x80", "\x00\x00\x00", "\x00\x7f\xff", "\xff\xff\x7f", "\xff\x80\x00",
		"\x00\x00\x80\x00", "\x00\x7f\xff\xff", "\xff\xff\x7f\xff", "\xff\x80\x00\x00", "\xff\xff\xff\xff",
		// More than four, whether fewer would do or not.
		"\x00\x80\x00\x00\x00", "\x01\x00\x00\x00\x00", "\xff\x7f\xff\xff\xff", "\x80\x00\x00\x00\x00",
		"\x00\x00\x00\x00\x01", "\xff\xff\xff\xff\xff", "\x00\x7f\xff\xff\xff", "\xff\x80\x00\x00\x00",
		"\x01\x00\x00\x00\x00\x00\x00\x00\x05", "\x7f\xff\xff\xff\xff\xff\xff\xff",
		strings.Repeat("\x00", 100000), strings.Repeat("\xff", 100000), strings.Repeat("\x7f", 100000),
	} {
		if n, e := prim.ReadInt(s); n != 0 || e != api.ErrNumber {
			t.Errorf("ReadInt(%.20x) = %d, %d; want ErrNumber", s, n, e)
		}
	}
}

// plain is the number that bytes (1 to 4) are as two's complement, least ones or not.
func plain(s string) int {
	n := 0
	for i := range len(s) {
		n = n*256 + int(s[i])
	}
	if s[0] >= 0x80 {
		n -= 1 << (8 * len(s))
	}
	return n
}

// isLeast tells whether no fewer bytes could tell what bytes (1 to 4) do.
func isLeast(s string) bool { return len(s) == 1 || plain(s[1:]) != plain(s) }

// checkRead holds what is read of bytes (1 to 4) against the words of the chapter.
func checkRead(t *testing.T, s string) {
	t.Helper()
	n, e := prim.ReadInt(s)
	if !isLeast(s) {
		if n != 0 || e != api.ErrNumber {
			t.Fatalf("ReadInt(%x) = %d, %d; want ErrNumber", s, n, e)
		}
		return
	}
	if n != plain(s) || e != api.OK {
		t.Fatalf("ReadInt(%x) = %d, %d; want %d", s, n, e, plain(s))
	}
	if back, f := prim.Int(n); back != s || f != api.OK {
		t.Fatalf("Int(%d) = %x, %d; want %x", n, back, f, s)
	}
}

// P3.1, P3.3
func TestEveryTextOfOneOrTwoBytes(t *testing.T) {
	for i := range 256 {
		checkRead(t, string([]byte{byte(i)}))
		for j := range 256 {
			checkRead(t, string([]byte{byte(i), byte(j)}))
		}
	}
}

// P3.1, P3.3
func TestTextsOfThreeOrFourBytes(t *testing.T) {
	some := []byte{0x00, 0x01, 0x7e, 0x7f, 0x80, 0x81, 0xfe, 0xff}
	for i := range 256 {
		for j := range 256 {
			for _, k := range some {
				checkRead(t, string([]byte{byte(i), byte(j), k}))
				for _, l := range some {
					checkRead(t, string([]byte{byte(i), byte(j), k, l}))
				}
			}
		}
	}
}

// P3.3
func TestNumbersComeBackFromTheirBytes(t *testing.T) {
	for n := api.MinInt; n <= api.MaxInt; n += step(n) {
		s, e := prim.Int(n)
		if e != api.OK || len(s) < 1 || len(s) > 4 || !isLeast(s) || plain(s) != n {
			t.Fatalf("Int(%d) = %x, %d", n, s, e)
		}
		if m, f := prim.ReadInt(s); m != n || f != api.OK {
			t.Fatalf("ReadInt(%x) = %d, %d; want %d", s, m, f, n)
		}
	}
}

// step keeps to every number near the edges, and to some of those between.
func step(n int) int {
	for _, edge := range []int{api.MinInt, -1 << 23, 0, 1 << 23, api.MaxInt} {
		if n > edge-70000 && n < edge+70000 {
			return 1
		}
	}
	return 9973
}

// P3.3
func TestNumbersBelowNoughtAreGreaterAsTexts(t *testing.T) {
	for _, a := range bytesOf {
		for _, b := range bytesOf {
			s, _ := prim.Int(a.n)
			u, _ := prim.Int(b.n)
			if a.n < 0 && b.n >= 0 && len(s) == len(u) && s <= u {
				t.Errorf("%d is %x, %d is %x", a.n, s, b.n, u)
			}
		}
	}
}

// P3.2
func TestBoolTellsBytes(t *testing.T) {
	if s := prim.Bool(true); s != "\xff" {
		t.Errorf("Bool(true) = %x", s)
	}
	if s := prim.Bool(false); s != "\x00" {
		t.Errorf("Bool(false) = %x", s)
	}
}

// P3.2
func TestReadBoolOfEveryByte(t *testing.T) {
	for i := range 256 {
		s := string([]byte{byte(i)})
		if b, e := prim.ReadBool(s); b != (i != 0) || e != api.OK {
			t.Errorf("ReadBool(%x) = %v, %d", s, b, e)
		}
	}
}

// P3.2
func TestReadBoolRefusesOtherThanOneByte(t *testing.T) {
	for _, s := range []string{"", "\x00\x00", "\x00\xff", "\xff\x00", "\xff\xff", "\x01\x01\x01", strings.Repeat("\xff", 100000)} {
		if b, e := prim.ReadBool(s); b || e != api.ErrBool {
			t.Errorf("ReadBool(%.20x) = %v, %d; want ErrBool", s, b, e)
		}
	}
}

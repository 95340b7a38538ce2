package code_test

import (
	"encoding/base64"
	"encoding/hex"
	"strings"
	"testing"

	"latiner/api"
	"latiner/code"
)

// coded are texts, with what tells them.
var coded = []struct{ text, base, digits string }{
	{"", "", ""},
	{"M", "TQ==", "4d"},
	{"Ma", "TWE=", "4d61"},
	{"Man", "TWFu", "4d616e"},
	{"f", "Zg==", "66"},
	{"fo", "Zm8=", "666f"},
	{"foo", "Zm9v", "666f6f"},
	{"foob", "Zm9vYg==", "666f6f62"},
	{"fooba", "Zm9vYmE=", "666f6f6261"},
	{"foobar", "Zm9vYmFy", "666f6f626172"},
	{"\x00", "AA==", "00"},
	{"\x00\x00", "AAA=", "0000"},
	{"\x00\x00\x00", "AAAA", "000000"},
	{"\xff", "/w==", "ff"},
	{"\xff\xff", "//8=", "ffff"},
	{"\xff\xff\xff", "////", "ffffff"},
	{"\xfb\xef\xbe", "++++", "fbefbe"},
	{"\x01\x23\x45\x67\x89\xab\xcd\xef", "ASNFZ4mrze8=", "0123456789abcdef"},
	{"\x00\x10\x83\x10\x51\x87\x20\x92\x8b", "ABCDEFGHIJKL", "00108310518720928b"},
	{"\xc3\xa9", "w6k=", "c3a9"},
	{"\x80\x0a\r=", "gAoNPQ==", "800a0d3d"},
}

// P5.1
func TestBase(t *testing.T) {
	for _, c := range coded {
		if s := code.Base(c.text); s != c.base {
			t.Errorf("Base(%x) = %q; want %q", c.text, s, c.base)
		}
	}
}

// P5.1
func TestUnbase(t *testing.T) {
	for _, c := range coded {
		if s, e := code.Unbase(c.base); s != c.text || e != api.OK {
			t.Errorf("Unbase(%q) = %x, %d; want %x", c.base, s, e, c.text)
		}
	}
}

// P5.1
func TestUnbaseRefusesWhatIsNoTextsBase64(t *testing.T) {
	long := strings.Repeat("TWFu", 30000)
	for _, s := range []string{
		// A group is cut.
		"T", "TQ", "TQ=", "TWE", "TWF", "TWFuT", "TWFuTQ", "TWFuTQ=", "TWFuTWE", long + "T", long + "TQ=",
		// Too few signs, or too much fill.
		"=", "==", "===", "====", "T===", "TWFu=", "TWFu==", "TWFu===", "TWFu====", "TWFuT===", "TQ===", "TQ======", "TWE==", long + "====",
		// Bits that miss are not 0.
		"TR==", "TU==", "TY==", "Tf==", "TWF=", "TWG=", "TWH=", "AB==", "AAB=", "//==", "///=", "TWFuTR==", "TWFuTWF=",
		// Fill elsewhere than at the end.
		"TQ==TQ==", "TQ==TWFu", "TWE=TWFu", "TWE=TQ==", "TQ=A", "TQ=Q", "T=Q=", "T=WE", "=TQ=", "=TWE", "T==Q", "TQ==" + long, "TWE=" + long,
		// No signs of base64.
		"TW Fu", "TW F", " TWFu", "TWFu ", "TWFu\n", "TW\nFu", "TWFu\r\n", "TW-_", "TW-u", "TW_u", "TQ..", "TQ==\x00", "TQ=\x00", "\x00\x00\x00\x00", "TWF\x7f", "TWF@", "TWF[", "TWF`", "TWF{", "TWF:", "TWF,", "TWF*",
		// No ASCII, and no UTF-8.
		"\xc3\xa9==", "TW\xc3\xa9", "T\xc3\xa9=", "TWF\xc3\xa9TWF", "\xf0\x9f\x98\x80", "TQ\xff\xff", "\xff\xff\xff\xff", "TWF\x80", "TWF\xf5", "\xef\xbc\xa1A", "TQ\xef\xbc\x9d=", long + "TWF\xbd",
	} {
		if u, e := code.Unbase(s); u != "" || e != api.ErrCode {
			t.Errorf("Unbase(%.40q) = %.40q, %d; want ErrCode", s, u, e)
		}
	}
}

// P5.2
func TestHex(t *testing.T) {
	for _, c := range coded {
		if s := code.Hex(c.text); s != c.digits {
			t.Errorf("Hex(%x) = %q; want %q", c.text, s, c.digits)
		}
	}
}

// P5.2
func TestUnhex(t *testing.T) {
	for _, c := range coded {
		for _, s := range []string{c.digits, strings.ToUpper(c.digits)} {
			if u, e := code.Unhex(s); u != c.text || e != api.OK {
				t.Errorf("Unhex(%q) = %x, %d; want %x", s, u, e, c.text)
			}
		}
	}
	if u, e := code.Unhex("aBCdEfFe"); u != "\xab\xcd\xef\xfe" || e != api.OK {
		t.Errorf("Unhex of letters, small and great = %x, %d", u, e)
	}
}

// P5.2
func TestUnhexRefusesWhatAreNoDigits(t *testing.T) {
	long := strings.Repeat("4d", 50000)
	for _, s := range []string{
		"4", "f", "F", "4d6", "4d616", long + "4",
		"4g", "g4", "4G", "G4", "4d6g", "g44d", "4=", "==", "4d==", "4d=", "=4",
		" 4d", "4d ", "4 d6", "4d 61", "4d\n", "0x4d", "0X", "-1", "+1", "4/", "4:", "4@", "4`", "\x00\x00", "4\x00",
		"\xc3\xa9", "4\xc3\xa9", "4\xc3\xa94", "\xff\xff", "4\xff", "\xef\xbc\x91", "\xef\xbc\x914", long + "4\xff", "\xff4" + long,
	} {
		if u, e := code.Unhex(s); u != "" || e != api.ErrCode {
			t.Errorf("Unhex(%.40q) = %.40q, %d; want ErrCode", s, u, e)
		}
	}
}

// checkText holds what tells a text against the library's codes, and reads it back.
func checkText(t *testing.T, s string) {
	t.Helper()
	b, d := code.Base(s), code.Hex(s)
	if want := base64.StdEncoding.EncodeToString([]byte(s)); b != want {
		t.Fatalf("Base(%.40x) = %.40q; want %.40q", s, b, want)
	}
	if want := hex.EncodeToString([]byte(s)); d != want {
		t.Fatalf("Hex(%.40x) = %.40q; want %.40q", s, d, want)
	}
	if u, e := code.Unbase(b); u != s || e != api.OK {
		t.Fatalf("Unbase(%.40q) = %.40x, %d; want %.40x", b, u, e, s)
	}
	if u, e := code.Unhex(d); u != s || e != api.OK {
		t.Fatalf("Unhex(%.40q) = %.40x, %d; want %.40x", d, u, e, s)
	}
}

// P5.1, P5.2, P5.3
func TestEveryTextOfOneOrTwoBytes(t *testing.T) {
	for i := range 256 {
		checkText(t, string([]byte{byte(i)}))
		for j := range 256 {
			checkText(t, string([]byte{byte(i), byte(j)}))
		}
	}
}

// P5.1, P5.2, P5.3
func TestTextsOfManyLengths(t *testing.T) {
	var all []byte
	for n := range 700 {
		checkText(t, string(all))
		all = append(all, byte(n*n*7+n*151+n>>3))
	}
	checkText(t, strings.Repeat("\x00\xff\x5a", 100000))
	checkText(t, strings.Repeat("\xfa\x01", 100000)+"\x80")
}

// P5.3
func TestNoTwoTextsAreToldAlike(t *testing.T) {
	bases, digits := map[string]string{}, map[string]string{}
	note := func(s string) {
		b, d := code.Base(s), code.Hex(s)
		if other, ok := bases[b]; ok {
			t.Fatalf("%x and %x are both %q", s, other, b)
		}
		if other, ok := digits[d]; ok {
			t.Fatalf("%x and %x are both %q", s, other, d)
		}
		bases[b], digits[d] = s, s
	}
	note("")
	for i := range 256 {
		note(string([]byte{byte(i)}))
		for j := range 256 {
			note(string([]byte{byte(i), byte(j)}))
			note(string([]byte{byte(i), 0, byte(j)}))
			note(string([]byte{byte(i), 0, 0, byte(j)}))
		}
	}
}

// checkUnbase: what is read is some text's base64, and all such is read.
func checkUnbase(t *testing.T, s string) {
	t.Helper()
	want, err := base64.StdEncoding.Strict().DecodeString(s)
	if err == nil && base64.StdEncoding.EncodeToString(want) == s {
		if u, e := code.Unbase(s); u != string(want) || e != api.OK {
			t.Fatalf("Unbase(%q) = %x, %d; want %x", s, u, e, want)
		}
		return
	}
	if u, e := code.Unbase(s); u != "" || e != api.ErrCode {
		t.Fatalf("Unbase(%q) = %x, %d; want ErrCode", s, u, e)
	}
}

// P5.1, P5.3
func TestUnbaseOfEveryByteAtEveryPlace(t *testing.T) {
	for _, s := range []string{"", "TQ==", "TWE=", "TWFu", "TWFuTQ==", "TWFuTWE=", "TWFuTWFu"} {
		for at := range len(s) + 1 {
			for i := range 256 {
				b := string([]byte{byte(i)})
				checkUnbase(t, s[:at]+b+s[at:])
				if at < len(s) {
					checkUnbase(t, s[:at]+b+s[at+1:])
				}
			}
		}
	}
}

// P5.1, P5.3
func TestUnbaseOfManyGroups(t *testing.T) {
	some := "ABQgwvz09+/=\n\xc3\xa9-"
	for i := range 256 {
		for j := range 256 {
			checkUnbase(t, string([]byte{byte(i), byte(j), '=', '='}))
			checkUnbase(t, string([]byte{'A', byte(i), byte(j), '='}))
			for k := range len(some) {
				checkUnbase(t, string([]byte{some[k], byte(i), byte(j), 'A'}))
			}
		}
	}
	for n := range len(some) * len(some) * len(some) * len(some) {
		var s []byte
		for range 4 {
			s = append(s, some[n%len(some)])
			n /= len(some)
		}
		checkUnbase(t, string(s))
		checkUnbase(t, "TWFu"+string(s))
		checkUnbase(t, string(s)+"TQ==")
	}
}

// P5.2, P5.3
func TestUnhexOfEveryTwoBytes(t *testing.T) {
	const digits = "0123456789abcdefABCDEF"
	for i := range 256 {
		if u, e := code.Unhex(string([]byte{byte(i)})); u != "" || e != api.ErrCode {
			t.Fatalf("Unhex(%x) = %x, %d; want ErrCode", i, u, e)
		}
		for j := range 256 {
			s := string([]byte{byte(i), byte(j)})
			u, e := code.Unhex(s)
			if strings.IndexByte(digits, s[0]) < 0 || strings.IndexByte(digits, s[1]) < 0 {
				if u != "" || e != api.ErrCode {
					t.Fatalf("Unhex(%q) = %x, %d; want ErrCode", s, u, e)
				}
				continue
			}
			if e != api.OK || code.Hex(u) != strings.ToLower(s) {
				t.Fatalf("Unhex(%q) = %x, %d", s, u, e)
			}
			for _, v := range []string{"00" + s, s + "Ff"} {
				if w, f := code.Unhex(v); f != api.OK || code.Hex(w) != strings.ToLower(v) {
					t.Fatalf("Unhex(%q) = %x, %d", v, w, f)
				}
			}
		}
	}
}

package esc_test

import (
	"encoding/hex"
	"regexp"
	"strings"
	"testing"
	"unicode/utf8"

	"latiner/api"
	"latiner/esc"
)

// values are some, with what is printed of them in a filter and in a name.
var values = []struct{ value, filter, name string }{
	{``, ``, ``},
	{`a`, `a`, `a`},
	{`a b`, `a b`, `a b`},
	{`a*(b)`, `a\2a\28b\29`, `a*(b)`},
	{` a,b `, ` a,b `, `\ a\,b\ `},
	{`\`, `\5c`, `\\`},
	{`\\`, `\5c\5c`, `\\\\`},
	{`\41`, `\5c41`, `\\41`},
	{`*`, `\2a`, `*`},
	{`()`, `\28\29`, `()`},
	{`"+,;<>`, `"+,;<>`, `\"\+\,\;\<\>`},
	{`a"b+c,d;e<f>g`, `a"b+c,d;e<f>g`, `a\"b\+c\,d\;e\<f\>g`},
	{`a=b`, `a=b`, `a=b`},
	{`=`, `=`, `=`},
	{`#`, `#`, `\#`},
	{`##`, `##`, `\##`},
	{`a#`, `a#`, `a#`},
	{`a #b`, `a #b`, `a #b`},
	{` `, ` `, `\ `},
	{`  `, `  `, `\ \ `},
	{`   `, `   `, `\  \ `},
	{` #`, ` #`, `\ #`},
	{`# `, `# `, `\#\ `},
	{`a `, `a `, `a\ `},
	{` a`, ` a`, `\ a`},
	{`\ `, `\5c `, `\\\ `},
	{` \`, ` \5c`, `\ \\`},
	{"~!'-./:?@[]^_`{|}&%$", "~!'-./:?@[]^_`{|}&%$", "~!'-./:?@[]^_`{|}&%$"},
	{"\x00", `\00`, `\00`},
	{"\x1f\x20\x7e\x7f", `\1f ~\7f`, `\1f ~\7f`},
	{" \x00", ` \00`, `\ \00`},
	{"\x00 ", `\00 `, `\00\ `},
	{"a\r\n\tb", `a\0d\0a\09b`, `a\0d\0a\09b`},
	{"\xc3\xa9", `\c3\a9`, `\c3\a9`},
	{"\x80\xff", `\80\ff`, `\80\ff`},
	{"\xab\xcd\xef", `\ab\cd\ef`, `\ab\cd\ef`},
}

// P6.1
func TestFilter(t *testing.T) {
	for _, c := range values {
		if s := esc.Filter(c.value); s != c.filter {
			t.Errorf("Filter(%q) = %q; want %q", c.value, s, c.filter)
		}
	}
}

// P6.2
func TestName(t *testing.T) {
	for _, c := range values {
		if s := esc.Name(c.value); s != c.name {
			t.Errorf("Name(%q) = %q; want %q", c.value, s, c.name)
		}
	}
}

// P6.1, P6.3
func TestReadFilterOfWhatIsPrinted(t *testing.T) {
	for _, c := range values {
		if s, e := esc.ReadFilter(c.filter); s != c.value || e != api.OK {
			t.Errorf("ReadFilter(%q) = %q, %d; want %q", c.filter, s, e, c.value)
		}
	}
}

// P6.2, P6.3
func TestReadNameOfWhatIsPrinted(t *testing.T) {
	for _, c := range values {
		if s, e := esc.ReadName(c.name); s != c.value || e != api.OK {
			t.Errorf("ReadName(%q) = %q, %d; want %q", c.name, s, e, c.value)
		}
	}
}

// P6.1
func TestReadFilterOfWhatIsNotPrintedSo(t *testing.T) {
	for s, want := range map[string]string{
		"\xc3\xa9":              "\xc3\xa9",
		"\xf0\x9f\x98\x80":      "\xf0\x9f\x98\x80",
		`\C3\A9`:                "\xc3\xa9",
		`\cA\Fe`:                "\xca\xfe",
		`\41\5C\2A\28\29\20\00`: "A\\*() \x00",
		"\x01\n\x7f":            "\x01\n\x7f",
		`\5c5c`:                 `\5c`,
		`\ff\80`:                "\xff\x80",
		"\xc3\xa9\\c3":          "\xc3\xa9\xc3",
		`"+,;<>#= `:             `"+,;<>#= `,
		` # `:                   ` # `,
	} {
		if u, e := esc.ReadFilter(s); u != want || e != api.OK {
			t.Errorf("ReadFilter(%q) = %q, %d; want %q", s, u, e, want)
		}
	}
}

// P6.2
func TestReadNameOfWhatIsNotPrintedSo(t *testing.T) {
	for s, want := range map[string]string{
		"\xc3\xa9":                "\xc3\xa9",
		"\xf0\x9f\x98\x80":        "\xf0\x9f\x98\x80",
		`\C3\A9`:                  "\xc3\xa9",
		`\cA\Fe`:                  "\xca\xfe",
		`\41\5C\22\2c\20\00`:      "A\\\", \x00",
		"\x01\n\x7f":              "\x01\n\x7f",
		`\=\ \#\"\+\,\;\<\>\\`:    `= #"+,;<>\`,
		`a\=b\ c\#d`:              `a=b c#d`,
		`a#b c=d`:                 `a#b c=d`,
		`\20a\20`:                 ` a `,
		`\23a`:                    `#a`,
		`\  a\ `:                  `  a `,
		`a \ `:                    `a  `,
		`\ `:                      ` `,
		`\\\ `:                    `\ `,
		`\\20`:                    `\20`,
		`*()`:                     `*()`,
		`\2a\28\29`:               `*()`,
		"\x01 #":                  "\x01 #",
		`\ff\80`:                  "\xff\x80",
		"\xc2\xa0a\xe3\x80\x80":   "\xc2\xa0a\xe3\x80\x80",
		"\xef\xbc\x83\\,\xc3\xa9": "\xef\xbc\x83,\xc3\xa9",
	} {
		if u, e := esc.ReadName(s); u != want || e != api.OK {
			t.Errorf("ReadName(%q) = %q, %d; want %q", s, u, e, want)
		}
	}
}

// wrong are texts that are read neither in a filter nor in a name.
var wrong = []string{
	// Nothing, or too little, behind the backslash.
	`\`, `a\`, `\\\`, `\4`, `a\f`, `\41\`, `\41\4`, `\5c\`,
	// No digits behind it.
	`\g1`, `\1g`, `\4 `, `\4:`, `\4/`, `\4@`, "\\4`", `\a`, `\ag`, `\G`, `\zz`, `\n`, `\0x`, `\x41`, `\*`, `\(`, `\)`, `\-`, `\:`, `\!`, `\4\41`, "\\\xc3\xa9", "\\4\xc3\xa9", "\\\xef\xbc\x94\xef\xbc\x91", "\\\n", "\\\x004", "\\4\x00", "\\\x00",
	// A byte 00.
	"\x00", "a\x00", "\x00a", `\00` + "\x00",
	// No UTF-8, behind a backslash or not.
	"\xff", "a\xff", "\x80", "\xc3", "\xc0\x80", "\xed\xa0\x80", "\xf4\x90\x80\x80", "\\c3\xa9", "\xc3\\a9", "\\\xff", "\\4\xff", "\\41\xff", "\xffa",
}

// P6.1
func TestReadFilterRefuses(t *testing.T) {
	long := strings.Repeat(`\41b`, 20000)
	for _, s := range append([]string{
		`*`, `(`, `)`, `a*`, `*a`, `a*b`, `a(`, `)b`, `\41*`, `\2a*`, `()`, `**`,
		`\,`, `\ `, `\#`, `\=`, `\\`, `\"`, `\+`, `\;`, `\<`, `\>`, `\\41`, `\ 41`, `\,a`,
		long + `*`, long + `\`, long + `\4`, long + "\xff", long + "\x00", `*` + long,
	}, wrong...) {
		if u, e := esc.ReadFilter(s); u != "" || e != api.ErrEscape {
			t.Errorf("ReadFilter(%.40q) = %.40q, %d; want ErrEscape", s, u, e)
		}
	}
}

// P6.2
func TestReadNameRefuses(t *testing.T) {
	long := strings.Repeat(`\41b`, 20000)
	for _, s := range append([]string{
		` `, `  `, ` a`, `a `, `#`, `#a`, `##`, ` \ `, `\  `, `\\ `, `\20 `, `\,\# `, `a\\ `, `a  `, `#\ `, "\xc3\xa9 ", " \xc3\xa9", ` \41`, `#\41`,
		`"`, `+`, `,`, `;`, `<`, `>`, `a"`, `a+b`, `a,b`, `a;b`, `a<b`, `a>b`, `"a"`, `\,,`, `\\,`, `\\+`, `\2c,`, `\""`,
		long + `,`, long + `\`, long + `\4`, long + "\xff", long + "\x00", long + " ", ` ` + long, `#` + long,
	}, wrong...) {
		if u, e := esc.ReadName(s); u != "" || e != api.ErrEscape {
			t.Errorf("ReadName(%.40q) = %.40q, %d; want ErrEscape", s, u, e)
		}
	}
}

// The chapter's words on what is read, as patterns.
var (
	filterText = regexp.MustCompile(`(?s)^(?:[^\\*()\x00]|\\[0-9A-Fa-f]{2})*$`)
	nameText   = regexp.MustCompile(`(?s)^(?:[^"+,;<>\\\x00]|\\[0-9A-Fa-f]{2}|\\[ #="+,;<>\\])*$`)
	nameBlank  = regexp.MustCompile(`(?s)^(?:[^\\]|\\[0-9A-Fa-f]{2}|\\[ #="+,;<>\\])* $`)
	escaped    = regexp.MustCompile(`(?s)\\(?:[0-9A-Fa-f]{2}|.)`)
)

func filterMayBeRead(s string) bool { return utf8.ValidString(s) && filterText.MatchString(s) }

func nameMayBeRead(s string) bool {
	return utf8.ValidString(s) && nameText.MatchString(s) && !strings.HasPrefix(s, " ") && !strings.HasPrefix(s, "#") && !nameBlank.MatchString(s)
}

// read is what a text that may be read tells.
func read(s string) string {
	return escaped.ReplaceAllStringFunc(s, func(e string) string {
		if len(e) == 2 {
			return e[1:]
		}
		b, _ := hex.DecodeString(e[1:])
		return string(b)
	})
}

// checkRead holds what is read from a text against the chapter's words.
func checkRead(t *testing.T, s string) {
	t.Helper()
	u, e := esc.ReadFilter(s)
	if filterMayBeRead(s) {
		if want := read(s); u != want || e != api.OK {
			t.Fatalf("ReadFilter(%q) = %q, %d; want %q", s, u, e, want)
		}
	} else if u != "" || e != api.ErrEscape {
		t.Fatalf("ReadFilter(%q) = %q, %d; want ErrEscape", s, u, e)
	}
	u, e = esc.ReadName(s)
	if nameMayBeRead(s) {
		if want := read(s); u != want || e != api.OK {
			t.Fatalf("ReadName(%q) = %q, %d; want %q", s, u, e, want)
		}
	} else if u != "" || e != api.ErrEscape {
		t.Fatalf("ReadName(%q) = %q, %d; want ErrEscape", s, u, e)
	}
}

// inFilter and inName say, byte by byte, what is printed.
func inFilter(s string, at int) string {
	if b := s[at]; b < 0x20 || b > 0x7e || strings.IndexByte(`\*()`, b) >= 0 {
		return `\` + hex.EncodeToString([]byte{b})
	}
	return s[at : at+1]
}

func inName(s string, at int) string {
	b := s[at]
	if b < 0x20 || b > 0x7e {
		return `\` + hex.EncodeToString([]byte{b})
	}
	if strings.IndexByte(`"+,;<>\`, b) >= 0 || at == 0 && (b == ' ' || b == '#') || at == len(s)-1 && b == ' ' {
		return `\` + s[at:at+1]
	}
	return s[at : at+1]
}

// checkPrinted holds what is printed of a value against the chapter's words, and reads it back.
func checkPrinted(t *testing.T, s string) {
	t.Helper()
	var filter, name strings.Builder
	for at := range len(s) {
		filter.WriteString(inFilter(s, at))
		name.WriteString(inName(s, at))
	}
	f, n := esc.Filter(s), esc.Name(s)
	if f != filter.String() {
		t.Fatalf("Filter(%.40q) = %.40q; want %.40q", s, f, filter.String())
	}
	if n != name.String() {
		t.Fatalf("Name(%.40q) = %.40q; want %.40q", s, n, name.String())
	}
	for _, p := range []string{f, n} {
		if strings.IndexFunc(p, func(r rune) bool { return r < 0x20 || r > 0x7e }) >= 0 {
			t.Fatalf("%.40q is printed as %.40q", s, p)
		}
	}
	if u, e := esc.ReadFilter(f); u != s || e != api.OK {
		t.Fatalf("ReadFilter(%.40q) = %.40q, %d; want %.40q", f, u, e, s)
	}
	if u, e := esc.ReadName(n); u != s || e != api.OK {
		t.Fatalf("ReadName(%.40q) = %.40q, %d; want %.40q", n, u, e, s)
	}
}

// P6.1, P6.2, P6.3
func TestEveryTextOfOneOrTwoBytes(t *testing.T) {
	for i := range 256 {
		checkPrinted(t, string([]byte{byte(i)}))
		checkRead(t, string([]byte{byte(i)}))
		for j := range 256 {
			checkPrinted(t, string([]byte{byte(i), byte(j)}))
			checkRead(t, string([]byte{byte(i), byte(j)}))
			checkRead(t, string([]byte{'\\', byte(i), byte(j)}))
		}
	}
}

// P6.1, P6.2, P6.3
func TestEveryShortTextOfSomeBytes(t *testing.T) {
	const some = "\\ #,*=4fG\xc3\xa9\x00"
	var every func(s string, left int)
	every = func(s string, left int) {
		checkPrinted(t, s)
		checkRead(t, s)
		if left == 0 {
			return
		}
		for i := range len(some) {
			every(s+some[i:i+1], left-1)
		}
	}
	every("", 4)
}

// P6.1, P6.2
func TestEveryByteAtEveryPlace(t *testing.T) {
	for _, s := range []string{``, `ab`, `\41b`, `a\2c`, `\,b`, `a\ `, `\ a\5C\ `, "a\xc3\xa9b", `\\\\`, `\20\20`} {
		for at := range len(s) + 1 {
			for i := range 256 {
				b := string([]byte{byte(i)})
				checkRead(t, s[:at]+b+s[at:])
				if at < len(s) {
					checkRead(t, s[:at]+b+s[at+1:])
				}
			}
		}
	}
}

// P6.3
func TestLongValues(t *testing.T) {
	var all []byte
	for n := range 600 {
		checkPrinted(t, string(all))
		all = append(all, byte(n*n*7+n*151+n>>3))
	}
	checkPrinted(t, strings.Repeat(` \*#"`+"\x00\xff", 20000))
	checkPrinted(t, strings.Repeat(" ", 100000))
	checkPrinted(t, strings.Repeat("\xff", 100000))
}

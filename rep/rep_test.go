package rep_test

import (
	"encoding/hex"
	"fmt"
	"math"
	"math/rand"
	"reflect"
	"regexp"
	"slices"
	"strings"
	"testing"
	"unicode/utf8"

	"latiner/api"
	"latiner/dn"
	"latiner/filt"
	"latiner/rep"
	"latiner/req"
	"latiner/tlv"
)

func letters(n int) string { return strings.Repeat("a", n) }

func leaf(tag int, data string) api.Node { return api.Node{Tag: tag, Data: data} }

func inner(tag int, kids ...api.Node) api.Node { return api.Node{Tag: tag, Kids: kids} }

func text(s string) api.Node { return leaf(4, s) }

func list(l ...api.Node) api.Node { return inner(0x30, l...) }

func texts(tag int, l ...string) api.Node {
	n := inner(tag)
	for _, s := range l {
		n.Kids = append(n.Kids, text(s))
	}
	return n
}

func attr(name string, values ...string) api.Attr { return api.Attr{Name: name, Values: values} }

// brief is what is told of anything, however great it is.
func brief(what any) string { return fmt.Sprintf("%.400s", fmt.Sprintf("%#v", what)) }

// same tells whether two things are, list by list; nil and empty lists are one.
func same(a, b reflect.Value) bool {
	switch a.Kind() {
	case reflect.Slice:
		if a.Len() != b.Len() {
			return false
		}
		for i := range a.Len() {
			if !same(a.Index(i), b.Index(i)) {
				return false
			}
		}
		return true
	case reflect.Struct:
		for i := range a.NumField() {
			if !same(a.Field(i), b.Field(i)) {
				return false
			}
		}
		return true
	}
	return a.Interface() == b.Interface()
}

func sameMsg(a, b api.Msg) bool { return same(reflect.ValueOf(a), reflect.ValueOf(b)) }

// A second telling of the chapter's words, as plain as can be.

// ops are the operations that are responses, tags their trees'.
var (
	ops  = []int{5, 7, 9, 11, 13, 15, 1, 24, 4, 19, 25}
	tags = []int{0x65, 0x67, 0x69, 0x6b, 0x6d, 0x6f, 0x61, 0x78, 0x64, 0x73, 0x79}
)

// extTags are those of the trees of an OID and of a value, of operations that may have them.
var extTags = map[int][2]int{1: {-1, 0x87}, 24: {0x8a, 0x8b}, 25: {0x80, 0x81}}

func hasResult(op int) bool { return op != 4 && op != 19 && op != 25 }

// bare is a message with just the fields that its operation uses.
func bare(m api.Msg) api.Msg {
	switch m.Op {
	case 5, 7, 9, 11, 13, 15:
		return api.Msg{Op: m.Op, Result: m.Result}
	case 1, 24:
		return api.Msg{Op: m.Op, Result: m.Result, Ext: m.Ext}
	case 4:
		return api.Msg{Op: 4, Dn: m.Dn, Attrs: m.Attrs}
	case 19:
		return api.Msg{Op: 19, Refs: m.Refs}
	case 25:
		return api.Msg{Op: 25, Ext: m.Ext}
	}
	return api.Msg{}
}

var oidForm = regexp.MustCompile(`^(0|[1-9][0-9]*)(\.(0|[1-9][0-9]*))+$`)

func isOid(s string) bool { return len(s) <= 20 && oidForm.MatchString(s) }

func isDn(s string) bool {
	_, e := dn.Parse(s)
	return len(s) <= 200 && e == api.OK
}

func areRefs(l []string) bool {
	for _, s := range l {
		if len(s) < 1 || len(s) > 60 || !utf8.ValidString(s) {
			return false
		}
	}
	return len(l) >= 1 && len(l) <= 3
}

func isResult(r api.Result) bool {
	refs := len(r.Refs) == 0
	if r.Code == 10 {
		refs = areRefs(r.Refs)
	}
	return r.Code >= 0 && r.Code <= 200 && isDn(r.Dn) && len(r.Text) <= 60 && utf8.ValidString(r.Text) && refs
}

// codeOf are a right code's bytes.
func codeOf(n int) string {
	if n > 127 {
		return "\x00" + string([]byte{byte(n)})
	}
	return string([]byte{byte(n)})
}

// plain is a message's tree, if the message is a right response.
func plain(m api.Msg) (api.Node, bool) {
	at := slices.Index(ops, m.Op)
	if at < 0 || !sameMsg(m, bare(m)) {
		return api.Node{}, false
	}
	n, right := inner(tags[at]), true
	if hasResult(m.Op) {
		n.Kids = append(n.Kids, leaf(10, codeOf(m.Result.Code)), text(m.Result.Dn), text(m.Result.Text))
		if len(m.Result.Refs) > 0 {
			n.Kids = append(n.Kids, texts(0xa3, m.Result.Refs...))
		}
		right = isResult(m.Result)
	}
	if beside, ok := extTags[m.Op]; ok {
		if m.Ext.Oid != "" {
			n.Kids = append(n.Kids, leaf(beside[0], m.Ext.Oid))
			right = right && isOid(m.Ext.Oid) && m.Op != 1
		}
		if m.Ext.Has {
			n.Kids = append(n.Kids, leaf(beside[1], m.Ext.Value))
		}
		right = right && len(m.Ext.Value) <= 200 && (m.Ext.Has || m.Ext.Value == "")
	}
	switch m.Op {
	case 4:
		all := list()
		right = isDn(m.Dn) && len(m.Attrs) <= 6
		for _, a := range m.Attrs {
			all.Kids = append(all.Kids, list(text(a.Name), texts(0x31, a.Values...)))
			right = right && filt.IsName(a.Name) && len(a.Values) <= 6
			for _, s := range a.Values {
				right = right && len(s) <= 200
			}
		}
		n.Kids = []api.Node{text(m.Dn), all}
	case 19:
		n, right = texts(0x73, m.Refs...), areRefs(m.Refs)
	}
	return n, right
}

func node(kids []api.Node, at int) api.Node {
	if at < len(kids) {
		return kids[at]
	}
	return api.Node{}
}

func datas(kids []api.Node) []string {
	var l []string
	for _, kid := range kids {
		l = append(l, kid.Data)
	}
	return l
}

// numberOf is what bytes tell, if they are few; whether they are a code's own its tree tells.
func numberOf(n api.Node) int {
	all := 0
	for i := range min(len(n.Data), 6) {
		all = all<<8 | int(n.Data[i])
	}
	return all
}

// guess is the only response whose tree one may be.
func guess(n api.Node) api.Msg {
	at := slices.Index(tags, n.Tag)
	if at < 0 {
		return api.Msg{Op: -1}
	}
	k, m := n.Kids, api.Msg{Op: ops[at]}
	if hasResult(m.Op) {
		m.Result = api.Result{Code: numberOf(node(k, 0)), Dn: node(k, 1).Data, Text: node(k, 2).Data}
		k = k[min(3, len(k)):]
		if node(k, 0).Tag == 0xa3 {
			m.Result.Refs, k = datas(k[0].Kids), k[1:]
		}
	}
	if beside, ok := extTags[m.Op]; ok {
		if len(k) > 0 && k[0].Tag == beside[0] {
			m.Ext.Oid, k = k[0].Data, k[1:]
		}
		m.Ext.Value, m.Ext.Has = node(k, 0).Data, len(k) > 0
	}
	switch m.Op {
	case 4:
		m.Dn = node(k, 0).Data
		for _, kid := range node(k, 1).Kids {
			m.Attrs = append(m.Attrs, attr(node(kid.Kids, 0).Data, datas(node(kid.Kids, 1).Kids)...))
		}
	case 19:
		m.Refs = datas(k)
	}
	return m
}

// msgIs holds what is told of a message, what is made of it, and what is read from that, against the chapter's words; it tells whether it is right.
func msgIs(t *testing.T, m api.Msg) bool {
	t.Helper()
	want, ok := plain(m)
	n, e := rep.Tree(m)
	if rep.Right(m) != ok {
		t.Fatalf("Right(%s) is not %v", brief(m), ok)
	}
	if !ok {
		if !reflect.DeepEqual(n, api.Node{}) || e != api.ErrRep {
			t.Fatalf("Tree(%s) = %s, %d; want ErrRep", brief(m), brief(n), e)
		}
		return false
	}
	if !tlv.Same(n, want) || e != api.OK || !rep.Is(m.Op) {
		t.Fatalf("Tree(%s) = %s, %d; want %s", brief(m), brief(n), e, brief(want))
	}
	if again, e := rep.Read(n); !sameMsg(again, m) || e != api.OK {
		t.Fatalf("Read(%s) = %s, %d; want %s", brief(n), brief(again), e, brief(m))
	}
	return true
}

// treeIs holds what is read from a tree against the chapter's words; it tells whether it may be read.
func treeIs(t *testing.T, n api.Node) bool {
	t.Helper()
	want := guess(n)
	tree, right := plain(want)
	ok := right && tlv.Same(tree, n)
	m, e := rep.Read(n)
	if !ok {
		if !reflect.DeepEqual(m, api.Msg{}) || e != api.ErrRep {
			t.Fatalf("Read(%s) = %s, %d; want ErrRep", brief(n), brief(m), e)
		}
		return false
	}
	if !sameMsg(m, want) || e != api.OK || !rep.Right(m) {
		t.Fatalf("Read(%s) = %s, %d; want %s", brief(n), brief(m), e, brief(want))
	}
	if _, e := req.Read(n); e != api.ErrReq { // P12.3
		t.Fatalf("%s is a request's too", brief(n))
	}
	return true
}

func unhex(t *testing.T, digits string) string {
	t.Helper()
	s, err := hex.DecodeString(strings.ReplaceAll(digits, " ", ""))
	if err != nil {
		t.Fatal(err)
	}
	return string(s)
}

// examples are right responses, beside the bytes of their trees, in digits.
func examples() map[string]api.Msg {
	six := attr("a", "1", "2", "3", "4", "5", "6")
	return map[string]api.Msg{
		"65 07 0a 01 00 04 00 04 00":                                    {Op: 5},
		"65 0c 0a 01 0a 04 00 04 00 a3 03 04 01 75":                     {Op: 5, Result: api.Result{Code: 10, Refs: []string{"u"}}},
		"67 0b 0a 01 20 04 03 6f3d78 04 01 6e":                          {Op: 7, Result: api.Result{Code: 32, Dn: "o=x", Text: "n"}},
		"69 08 0a 02 00c8 04 00 04 00":                                  {Op: 9, Result: api.Result{Code: 200}},
		"6b 09 0a 01 7f 04 00 04 02 c3a9":                               {Op: 11, Result: api.Result{Code: 127, Text: "\xc3\xa9"}},
		"6d 13 0a 01 0a 04 03 6f3d78 04 00 a3 07 04 01 61 04 02 c3a9":   {Op: 13, Result: api.Result{Code: 10, Dn: "o=x", Refs: []string{"a", "\xc3\xa9"}}},
		"6f 07 0a 01 06 04 00 04 00":                                    {Op: 15, Result: api.Result{Code: 6}},
		"61 07 0a 01 00 04 00 04 00":                                    {Op: 1},
		"61 09 0a 01 0e 04 00 04 00 87 00":                              {Op: 1, Result: api.Result{Code: 14}, Ext: api.Ext{Has: true}},
		"61 10 0a 01 0a 04 00 04 00 a3 03 04 01 75 87 02 00ff":          {Op: 1, Result: api.Result{Code: 10, Refs: []string{"u"}}, Ext: api.Ext{Value: "\x00\xff", Has: true}},
		"78 07 0a 01 00 04 00 04 00":                                    {Op: 24},
		"78 0c 0a 01 00 04 00 04 00 8a 03 312e32":                       {Op: 24, Ext: api.Ext{Oid: "1.2"}},
		"78 09 0a 01 00 04 00 04 00 8b 00":                              {Op: 24, Ext: api.Ext{Has: true}},
		"78 0f 0a 01 00 04 00 04 00 8a 03 312e32 8b 01 76":              {Op: 24, Ext: api.Ext{Oid: "1.2", Value: "v", Has: true}},
		"78 14 0a 01 0a 04 03 6f3d78 04 00 a3 03 04 01 75 8a 03 312e32": {Op: 24, Result: api.Result{Code: 10, Dn: "o=x", Refs: []string{"u"}}, Ext: api.Ext{Oid: "1.2"}},
		"64 04 04 00 30 00":                                             {Op: 4},
		"64 0e 04 03 6f3d78 30 07 30 05 04 01 61 31 00":                 {Op: 4, Dn: "o=x", Attrs: []api.Attr{attr("a")}},
		"64 26 04 00 30 22 30 17 04 01 61 31 12 04 01 31 04 01 32 04 01 33 04 01 34 04 01 35 04 01 36 30 07 04 01 61 31 02 04 00": {Op: 4, Attrs: []api.Attr{six, attr("a", "")}},
		"73 03 04 01 75":                     {Op: 19, Refs: []string{"u"}},
		"73 0a 04 01 61 04 02 c3a9 04 01 61": {Op: 19, Refs: []string{"a", "\xc3\xa9", "a"}},
		"79 00":                              {Op: 25},
		"79 05 80 03 312e32":                 {Op: 25, Ext: api.Ext{Oid: "1.2"}},
		"79 02 81 00":                        {Op: 25, Ext: api.Ext{Has: true}},
		"79 08 80 03 312e32 81 01 76":        {Op: 25, Ext: api.Ext{Oid: "1.2", Value: "v", Has: true}},
	}
}

// P12.1, P12.2, P12.3
func TestExamples(t *testing.T) {
	for digits, m := range examples() {
		want := unhex(t, digits)
		n, e := rep.Tree(m)
		if s, wrong := tlv.Encode(n); s != want || e != api.OK || wrong != api.OK || !rep.Right(m) {
			t.Errorf("Tree(%s): %x, %d, %d; want %x", brief(m), s, e, wrong, want)
		}
		n, wrong := tlv.Whole(want)
		if again, e := rep.Read(n); !sameMsg(again, m) || e != api.OK || wrong != api.OK {
			t.Errorf("Read of %x = %s, %d, %d; want %s", want, brief(again), e, wrong, brief(m))
		}
		if !msgIs(t, m) || !treeIs(t, n) {
			t.Errorf("not right: %s", brief(m))
		}
	}
}

// anyOps are operations, and numbers that are none's.
func anyOps() []int {
	all := []int{math.MinInt, math.MaxInt, 1 << 32, 1<<32 + 5, -1 << 32, 1 << 31, -1 << 31}
	for op := -300; op < 600; op++ {
		all = append(all, op)
	}
	return all
}

// P12.1
func TestIs(t *testing.T) {
	right := map[int]int{}
	for _, op := range anyOps() {
		if rep.Is(op) != slices.Contains(ops, op) {
			t.Errorf("Is(%d)", op)
		}
		for _, m := range examples() {
			m.Op = op
			if msgIs(t, m) {
				right[op]++
			}
		}
	}
	results, empty := 6, 5 // that tell a result alone, and nothing at all
	want := map[int]int{4: empty + 2, 19: 2, 25: empty + 3 + 3}
	for _, op := range []int{5, 7, 9, 11, 13, 15} {
		want[op] = results + empty
	}
	want[1] = results + empty + 2 + 1 + 1  // its own with a value, and those of a value alone
	want[24] = results + empty + 2 + 4 + 3 // all that tell no entry, and no references
	if !reflect.DeepEqual(right, want) {
		t.Errorf("%v are right; want %v", right, want)
	}
}

// P12.1
func TestAnswers(t *testing.T) {
	done := map[int]int{0: 1, 3: 5, 6: 7, 8: 9, 10: 11, 12: 13, 14: 15, 23: 24}
	for _, op := range anyOps() {
		want, ok := done[op]
		if !ok {
			want = -1
		}
		if n := rep.Answers(op); n != want || ok && (!req.Is(op) || !rep.Is(n)) {
			t.Errorf("Answers(%d) = %d; want %d", op, n, want)
		}
	}
}

// fillings are messages with something in one field that is not their operation's number.
func fillings() map[string]api.Msg {
	return map[string]api.Msg{
		"an Id":            {Id: 1},
		"an Id below 0":    {Id: -1},
		"a Dn":             {Dn: "o=x"},
		"an empty attr":    {Attrs: []api.Attr{{}}},
		"an attr":          {Attrs: []api.Attr{attr("a", "b")}},
		"an empty change":  {Changes: []api.Change{{}}},
		"a change":         {Changes: []api.Change{{Attr: attr("a", "b")}}},
		"a Scope":          {Search: api.Search{Scope: 1}},
		"a Deref":          {Search: api.Search{Deref: 1}},
		"a Size":           {Search: api.Search{Size: 1}},
		"a Time":           {Search: api.Search{Time: 1}},
		"TypesOnly":        {Search: api.Search{TypesOnly: true}},
		"a filter's Kind":  {Search: api.Search{Filter: api.Filter{Kind: 1}}},
		"a filter's Name":  {Search: api.Search{Filter: api.Filter{Name: "a"}}},
		"a filter's Value": {Search: api.Search{Filter: api.Filter{Value: "a"}}},
		"a filter's Final": {Search: api.Search{Filter: api.Filter{Final: "a"}}},
		"a filter's Any":   {Search: api.Search{Filter: api.Filter{Any: []string{""}}}},
		"a filter's L":     {Search: api.Search{Filter: api.Filter{L: []api.Filter{{}}}}},
		"a filter":         {Search: api.Search{Filter: api.Filter{Kind: api.Present, Name: "a"}}},
		"an empty name":    {Search: api.Search{Names: []string{""}}},
		"a name":           {Search: api.Search{Names: []string{"*"}}},
		"an Rdn":           {Move: api.Move{Rdn: "o=y"}},
		"DeleteOld":        {Move: api.Move{DeleteOld: true}},
		"a Superior":       {Move: api.Move{Superior: "o=y"}},
		"it has one":       {Move: api.Move{Has: true}},
		"Simple":           {Bind: api.Bind{Simple: true}},
		"Auth":             {Bind: api.Bind{Auth: "a"}},
		"a Mech":           {Bind: api.Bind{Mech: "A"}},
		"it has some":      {Bind: api.Bind{Has: true}},
		"an Oid":           {Ext: api.Ext{Oid: "1.2"}},
		"a Value":          {Ext: api.Ext{Value: "v"}},
		"it has a Value":   {Ext: api.Ext{Has: true}},
		"a Code":           {Result: api.Result{Code: 1}},
		"a result's Dn":    {Result: api.Result{Dn: "o=x"}},
		"a Text":           {Result: api.Result{Text: "a"}},
		"a result's Refs":  {Result: api.Result{Refs: []string{"u"}}},
		"Refs":             {Refs: []string{"u"}},
		"an empty ref":     {Refs: []string{""}},
		"a Target":         {Target: 1},
		"a Target below 0": {Target: -1},
		"a control":        {Controls: []api.Control{{Oid: "1.2"}}},
		"an empty control": {Controls: []api.Control{{}}},
	}
}

// fill puts what another message has into a message, where that has nothing.
func fill(m, more api.Msg) api.Msg {
	merge(reflect.ValueOf(&m).Elem(), reflect.ValueOf(more))
	return m
}

func merge(to, from reflect.Value) {
	if to.Kind() == reflect.Struct {
		for i := range to.NumField() {
			merge(to.Field(i), from.Field(i))
		}
	} else if to.IsZero() {
		to.Set(from)
	}
}

// P12.1: what an operation does not use is empty.
func TestEveryOtherField(t *testing.T) {
	none := reflect.TypeOf(api.Msg{})
	for why, more := range fillings() {
		field := 0
		for i := range none.NumField() {
			if !reflect.ValueOf(more).Field(i).IsZero() {
				field = i
			}
		}
		for _, m := range examples() {
			all := fill(m, more)
			used := !reflect.ValueOf(bare(all)).Field(field).IsZero()
			if ok := msgIs(t, all); ok && !used {
				t.Errorf("operation %d with %s is right", m.Op, why)
			}
		}
	}
}

// P12.1, P12.2: nil and empty lists are one.
func TestEmptyLists(t *testing.T) {
	for _, m := range examples() {
		lists := api.Msg{Attrs: []api.Attr{}, Changes: []api.Change{}, Refs: []string{}, Controls: []api.Control{}}
		lists.Search.Names, lists.Search.Filter.Any, lists.Search.Filter.L, lists.Result.Refs = []string{}, []string{}, []api.Filter{}, []string{}
		if all := fill(m, lists); !msgIs(t, all) {
			t.Errorf("not right: %s", brief(all))
		}
		n, _ := plain(m)
		if !treeIs(t, withEmptyLists(n)) {
			t.Errorf("not read: %s", brief(n))
		}
	}
}

func withEmptyLists(n api.Node) api.Node {
	kids := []api.Node{}
	for _, kid := range n.Kids {
		kids = append(kids, withEmptyLists(kid))
	}
	n.Kids = kids
	return n
}

// sizes are texts, as many bytes as limits may ask for.
func sizes(l ...int) []string {
	var all []string
	for _, n := range l {
		all = append(all, letters(n))
	}
	return all
}

// longDn has 194 bytes, and wants a value.
var longDn = strings.Repeat("cn="+letters(60)+",", 3) + "o="

// dns are names' texts, and what is none.
func dns() map[string]bool {
	return map[string]bool{
		"": true, "o=x": true, `cn=a\,b+sn=c,o=x`: true, "1.2=": true, longDn + letters(6): true, strings.Repeat("o=a,", 7) + "o=a": true,
		longDn + letters(7): false, "o": false, "cn": false, "=a": false, "o=x,": false, "o=a;b": false, "o=\xff": false, " ": false, "o=" + letters(61): false, strings.Repeat("o=a,", 8) + "o=a": false, letters(1 << 20): false,
	}
}

// codes are results', without references, and what is none.
func codes() map[int]bool {
	all := map[int]bool{math.MinInt: false, math.MaxInt: false, -1: false, -128: false, -256: false, 201: false, 255: false, 256: false, 266: false, 1 << 31: false, 1 << 32: false, 1<<32 + 10: false, 0: true, 200: true}
	for n := range 201 {
		all[n] = n != 10
	}
	return all
}

// withResult holds a message with a result, and its tree, whatever it is, of all operations that have one; it tells of how many both are right.
func withResult(t *testing.T, r api.Result) int {
	t.Helper()
	right := 0
	for at, op := range ops {
		m := api.Msg{Op: op, Result: r}
		msg := msgIs(t, m)
		n := inner(tags[at], leaf(10, codeOf(r.Code)), text(r.Dn), text(r.Text))
		if len(r.Refs) > 0 {
			n.Kids = append(n.Kids, texts(0xa3, r.Refs...))
		}
		tree := treeIs(t, n)
		if r.Code >= 0 && r.Code < 256 && hasResult(op) && msg != tree {
			t.Errorf("operation %d of %s: %v, %v", op, brief(r), msg, tree)
		}
		if msg && hasResult(op) {
			right++
		}
	}
	return right
}

// P12.1, P12.2, P12.3
func TestResults(t *testing.T) {
	for code, right := range codes() {
		if n := withResult(t, api.Result{Code: code}); (n == 8) != right || !right && n != 0 {
			t.Errorf("code %d: %d are right", code, n)
		}
		for count := range 6 {
			l := slices.Repeat([]string{"u"}, count)
			want := right && count == 0 || code == 10 && count > 0 && count < 4
			if n := withResult(t, api.Result{Code: code, Refs: l}); (n == 8) != want {
				t.Errorf("code %d, of %d Refs: %d are right", code, count, n)
			}
		}
	}
	for name, right := range dns() {
		if n := withResult(t, api.Result{Code: 1, Dn: name}); (n == 8) != right {
			t.Errorf("name %.60q: %d are right", name, n)
		}
	}
	for s, right := range signs() {
		if n := withResult(t, api.Result{Code: 1, Text: s}); (n == 8) != right {
			t.Errorf("text %.60q: %d are right", s, n)
		}
		for at := range 3 {
			l := []string{"a", "b", "c"}
			l[at] = s
			if n := withResult(t, api.Result{Code: 10, Refs: l}); (n == 8) != (right && s != "") {
				t.Errorf("reference %.60q: %d are right", s, n)
			}
		}
	}
}

// signs are texts that are signs' bytes, and few, and what is none.
func signs() map[string]bool {
	return map[string]bool{
		"": true, "a": true, "\x00": true, " ": true, "\n": true, letters(59): true, letters(60): true, "\xc3\xa9": true, "\xe2\x82\xac": true, "\xf4\x8f\xbf\xbf": true, strings.Repeat("\xc3\xa9", 30): true,
		letters(61): false, letters(1 << 20): false, strings.Repeat("\xc3\xa9", 31): false, "\xc0\x80": false, "\xed\xa0\x80": false, "\xf4\x90\x80\x80": false, "\xff": false, "\x80": false, "a\xc3": false, letters(59) + "\xc3": false,
	}
}

// P12.2: bytes of a code that are not its own are refused.
func TestBytesOfCodes(t *testing.T) {
	for at, op := range ops {
		read := 0
		for b := range 256 {
			one := string([]byte{byte(b)})
			for _, s := range []string{"", one, "\x00" + one, "\x00\x00" + one, one + "\x00", "\x01" + one, "\xff" + one, "\x01\x00\x00\x00" + one} {
				if treeIs(t, inner(tags[at], leaf(10, s), text(""), text(""))) {
					read++
				}
			}
		}
		if want := 200; hasResult(op) && read != want { // from 0 on, but 10, which wants references
			t.Errorf("operation %d: %d are read; want %d", op, read, want)
		}
	}
}

// oids are OIDs, and what is none.
func oids() map[string]bool {
	return map[string]bool{
		"1.2": true, "0.0": true, "2.5.4.3": true, "1." + strings.Repeat("1", 18): true,
		"cn": false, "1": false, "1." + strings.Repeat("1", 19): false, "1.02": false, "1.2;x": false, "1.2\x00": false, "1..2": false, ".1": false, " 1.2": false, letters(1 << 20): false,
	}
}

// P12.1, P12.2, P12.3
func TestWhatComesBeside(t *testing.T) {
	all := oids()
	all[""] = true
	right := map[int]int{}
	for oid, good := range all {
		for _, value := range append(sizes(0, 1, 199, 200, 201, 1<<12), "\x00", "\xff\xfe") {
			for _, has := range []bool{false, true} {
				for _, op := range ops {
					if msgIs(t, api.Msg{Op: op, Ext: api.Ext{Oid: oid, Value: value, Has: has}}) {
						right[op]++
						if !good {
							t.Errorf("operation %d with %.60q", op, oid)
						}
					}
				}
			}
			for at, op := range ops {
				head := []api.Node{leaf(10, "\x00"), text(""), text("")}
				if !hasResult(op) {
					head = nil
				}
				for _, a := range []int{0x80, 0x87, 0x8a, 0x8b, 4, 0, -1} {
					treeIs(t, inner(tags[at], append(slices.Clip(head), leaf(a, oid))...))
					for _, b := range []int{0x81, 0x87, 0x8a, 0x8b, 4, 0, -1} {
						treeIs(t, inner(tags[at], append(slices.Clip(head), leaf(a, oid), leaf(b, value))...))
					}
				}
			}
		}
	}
	want := map[int]int{1: 7, 24: 5 * 7, 25: 5 * 7} // six values that it has, and none
	for _, op := range []int{5, 7, 9, 11, 13, 15, 4} {
		want[op] = 1
	}
	if !reflect.DeepEqual(right, want) {
		t.Errorf("%v are right; want %v", right, want)
	}
}

// P12.2: an OID's tree is never empty, and stands ahead of the value's.
func TestOrderOfWhatComesBeside(t *testing.T) {
	result := []api.Node{leaf(10, "\x00"), text(""), text("")}
	oid, value, empty := leaf(0x8a, "1.2"), leaf(0x8b, "v"), leaf(0x8a, "")
	for i, l := range [][]api.Node{{value, oid}, {oid, oid}, {value, value}, {empty}, {empty, value}, {oid, value, value}, {oid, empty}, {leaf(0x87, "v")}, {leaf(0x80, "1.2")}, {leaf(0x81, "v")}, {texts(0xa3, "u"), oid}} {
		if treeIs(t, inner(0x78, append(slices.Clip(result), l...)...)) {
			t.Errorf("list %d", i)
		}
		if treeIs(t, inner(0x78, l...)) || treeIs(t, inner(0x78, append(slices.Clone(l), result...)...)) {
			t.Errorf("list %d, ahead of the result", i)
		}
	}
	oid, value, empty = leaf(0x80, "1.2"), leaf(0x81, "v"), leaf(0x80, "")
	for i, l := range [][]api.Node{{value, oid}, {oid, oid}, {value, value}, {empty}, {empty, value}, {oid, value, value}, {oid, empty}, {leaf(0x8a, "1.2")}, {leaf(0x8b, "v")}, {text("")}} {
		if treeIs(t, inner(0x79, l...)) {
			t.Errorf("list %d of trees", i)
		}
	}
}

// names are attributes', and what is none.
func names() map[string]bool {
	return map[string]bool{
		"a": true, "cn;lang-de": true, "2.5.4.3;x;y": true, letters(20): true, letters(20) + ";" + letters(9): true,
		"": false, "a;": false, "1": false, "a b": false, "*": false, "a*": false, letters(21): false, letters(20) + ";" + letters(10): false, "\xc3\xa9": false, letters(1 << 20): false,
	}
}

// P12.1, P12.2, P12.3
func TestEntries(t *testing.T) {
	for name, right := range dns() {
		for _, l := range [][]api.Attr{nil, {attr("a", "x")}} {
			m := api.Msg{Op: 4, Dn: name, Attrs: l}
			n, _ := plain(m)
			if msgIs(t, m) != right || treeIs(t, n) != right {
				t.Errorf("name %.60q is not %v", name, right)
			}
		}
	}
	for name, good := range names() {
		for i, values := range [][]string{nil, {}, {""}, {"x", "y"}, {"x", "x"}, sizes(200, 0, 0, 0, 0, 0), {"\x00\xff"}, {letters(201)}, make([]string, 7)} {
			for count := range 9 {
				m := api.Msg{Op: 4, Attrs: slices.Repeat([]api.Attr{attr(name, values...)}, count)}
				n, _ := plain(m)
				want := count == 0 || good && i < 7 && count < 7
				if msgIs(t, m) != want || treeIs(t, n) != want {
					t.Errorf("%d attributes %.60q of values %d are not %v", count, name, i, want)
				}
			}
		}
	}
	for at := range 6 {
		for _, bad := range []api.Attr{{}, attr("a;"), attr("a", letters(201)), attr("a", make([]string, 7)...)} {
			l := slices.Repeat([]api.Attr{attr("a")}, 6)
			l[at] = bad
			m := api.Msg{Op: 4, Attrs: l}
			n, _ := plain(m)
			if msgIs(t, m) || treeIs(t, n) {
				t.Errorf("a wrong attribute at %d", at)
			}
		}
	}
	if msgIs(t, api.Msg{Op: 4, Attrs: make([]api.Attr, 1<<18)}) {
		t.Error("many attributes")
	}
}

// P12.2
func TestTreesOfEntries(t *testing.T) {
	some, empty := list(text("a"), texts(0x31, "x")), list(text("a"), inner(0x31))
	for i, l := range [][]api.Node{
		{}, {text("")}, {list()}, {list(), text("")}, {text(""), list(), list()}, {text(""), list(), text("")}, {text(""), text("")}, {text(""), inner(0x31)}, {text(""), some}, {text(""), some, empty},
		{text(""), list(list())}, {text(""), list(text("a"))}, {text(""), list(list(text("a")))}, {text(""), list(list(text("a"), list()))}, {text(""), list(list(text("a"), inner(0x31), inner(0x31)))}, {text(""), list(list(text("a"), text("x")))},
		{leaf(5, ""), list()}, {{Tag: 4, Kids: []api.Node{{}}}, list()}, {text(""), {Tag: 0x30, Data: "x"}}, {text(""), list(api.Node{})},
	} {
		if treeIs(t, inner(0x64, l...)) {
			t.Errorf("list %d", i)
		}
	}
}

// P12.1, P12.2, P12.3
func TestReferences(t *testing.T) {
	for s, good := range signs() {
		for count := range 6 {
			for at := range count {
				l := slices.Repeat([]string{"u"}, count)
				l[at] = s
				want := good && s != "" && count < 4
				if msgIs(t, api.Msg{Op: 19, Refs: l}) != want || treeIs(t, texts(0x73, l...)) != want {
					t.Errorf("reference %.60q at %d of %d is not %v", s, at, count, want)
				}
			}
		}
	}
	if msgIs(t, api.Msg{Op: 19}) || treeIs(t, inner(0x73)) || msgIs(t, api.Msg{Op: 19, Refs: make([]string, 1<<18)}) {
		t.Error("none, or many")
	}
	for _, tag := range []int{0, 4 + 256, -4, 5, 0x0c, 0x24, 0x30, 0x80, 0x84, 0xa3} {
		for at := range 3 {
			n := texts(0x73, "a", "b", "c")
			n.Kids[at].Tag = tag
			if treeIs(t, n) {
				t.Errorf("tag %x at %d", tag, at)
			}
		}
	}
}

// P12.1, P12.2: what is right is told, though its tree has too many bytes for layer 2.
func TestTreesTooGreatForBytes(t *testing.T) {
	full := attr("a", slices.Repeat([]string{letters(200)}, 6)...)
	m := api.Msg{Op: 4, Attrs: slices.Repeat([]api.Attr{full}, 6)}
	n, e := rep.Tree(m)
	if !msgIs(t, m) || !treeIs(t, n) || e != api.OK || tlv.Right(n) {
		t.Error(e)
	}
}

// requests are right, one at least of each operation.
func requests() []api.Msg {
	return []api.Msg{
		{Op: 0, Bind: api.Bind{Simple: true}}, {Op: 0, Bind: api.Bind{Mech: "X", Has: true}}, {Op: 2},
		{Op: 3, Search: api.Search{Filter: api.Filter{Kind: api.Present, Name: "a"}}},
		{Op: 6, Changes: []api.Change{{Kind: 2, Attr: attr("a")}}}, {Op: 8, Attrs: []api.Attr{attr("a", "b")}}, {Op: 10}, {Op: 10, Dn: "o=x"},
		{Op: 12, Move: api.Move{Rdn: "cn=b", Has: true}}, {Op: 14, Dn: "o=x", Attrs: []api.Attr{attr("a", "b")}}, {Op: 16}, {Op: 23, Ext: api.Ext{Oid: "1.2", Value: "v", Has: true}},
	}
}

// P12.3: no tree is a request's, and a response's.
func TestNoTreeIsBoth(t *testing.T) {
	for _, m := range requests() {
		n, e := req.Tree(m)
		if again, wrong := req.Read(n); !sameMsg(again, m) || e != api.OK || wrong != api.OK {
			t.Errorf("operation %d: %d, %d", m.Op, e, wrong)
		}
		if treeIs(t, n) || msgIs(t, m) || rep.Is(m.Op) {
			t.Errorf("operation %d is a response's", m.Op)
		}
	}
	for _, m := range examples() {
		n, _ := rep.Tree(m)
		if again, e := req.Read(n); e != api.ErrReq || req.Right(m) || req.Is(m.Op) {
			t.Errorf("operation %d is a request's: %s", m.Op, brief(again))
		}
	}
}

// pieces are trees that stand in responses' trees, or might.
func pieces() []api.Node {
	return []api.Node{
		text("o=x"), text("a"), text(""), leaf(10, "\x00"), leaf(10, "\x0a"), leaf(2, "\x00"), leaf(0, ""), leaf(-1, ""), leaf(0x80, "1.2"), leaf(0x80, ""), leaf(0x81, "v"), leaf(0x87, ""), leaf(0x8a, "1.2"), leaf(0x8a, ""), leaf(0x8b, "v"),
		list(), list(list(text("a"), texts(0x31, "x"))), list(text("a"), inner(0x31)), inner(0xa3), texts(0xa3, "u"), texts(0xa3, ""), texts(0xa3, "a", "b"),
	}
}

// lists yields all lists of some trees, up to so many, behind a head.
func lists(head []api.Node, most int, yield func([]api.Node)) {
	level := [][]api.Node{slices.Clip(head)}
	for range most + 1 {
		var next [][]api.Node
		for _, l := range level {
			yield(l)
			for _, n := range pieces() {
				next = append(next, append(slices.Clip(l), n))
			}
		}
		level = next
	}
}

// P12.2: every list of up to three pieces, in each tree, alone and behind a code and a name.
func TestListsOfPieces(t *testing.T) {
	alone, behind := map[int]int{}, map[int]int{}
	count := func(into map[int]int) func(l []api.Node) {
		return func(l []api.Node) {
			for _, tag := range tags {
				if treeIs(t, inner(tag, l...)) {
					into[tag]++
				}
			}
		}
	}
	lists(nil, 3, count(alone))
	lists([]api.Node{leaf(10, "\x00"), text("o=x")}, 3, count(behind))
	lists([]api.Node{leaf(10, "\x0a"), text("")}, 3, count(behind))
	wantAlone := map[int]int{
		0x64: 2 * 2,     // two names; no attribute, or one
		0x73: 2 + 4 + 8, // two texts that are not empty
		0x79: 2 * 2,     // with and without an OID, and a value
	}
	wantBehind := map[int]int{}
	for at, op := range ops {
		if hasResult(op) {
			wantAlone[tags[at]] = 2 * 3    // one code, two names, three texts
			wantBehind[tags[at]] = 3 + 3*2 // three texts; of the second code with one of two lists of references
		}
	}
	wantBehind[0x61] *= 2        // with and without a value
	wantBehind[0x78] = 3*4 + 6*3 // with an OID too; behind references there is room for one of them
	if !reflect.DeepEqual(alone, wantAlone) {
		t.Errorf("%v are read; want %v", alone, wantAlone)
	}
	if !reflect.DeepEqual(behind, wantBehind) {
		t.Errorf("%v are read behind a code and a name; want %v", behind, wantBehind)
	}
}

// P12.2: every tag, of trees that differ in it alone.
func TestEveryTag(t *testing.T) {
	for digits, m := range examples() {
		n, _ := plain(m)
		want := 1
		if hasResult(m.Op) && m.Ext == (api.Ext{}) {
			want = 8 // as many operations have a result alone
		}
		all := []int{math.MinInt, math.MaxInt, n.Tag + 1<<32, n.Tag - 1<<32}
		for tag := -300; tag < 600; tag++ {
			all = append(all, tag)
		}
		read := 0
		for _, tag := range all {
			if treeIs(t, api.Node{Tag: tag, Data: n.Data, Kids: n.Kids}) {
				read++
			}
		}
		if read != want {
			t.Errorf("%s is read of %d tags", digits, read)
		}
	}
}

// changesHere yields a tree with itself changed, or its list of others, in each of some ways.
func changesHere(n api.Node, yield func(api.Node)) {
	for _, tag := range append([]int{n.Tag + 1, n.Tag ^ 0x20, n.Tag ^ 0x80, n.Tag + 256, -n.Tag, -1, 0, 1, 2, 4, 10, 0x30, 0x31, 0x80, 0x81, 0x87, 0x8a, 0x8b, 0xa3}, tags...) {
		if tag != n.Tag {
			yield(api.Node{Tag: tag, Data: n.Data, Kids: n.Kids})
		}
	}
	for _, s := range []string{n.Data + "a", "a" + n.Data, n.Data + "\x00", "\x00" + n.Data, n.Data + "\xff", "", "\x01", "\x02", "\x03", "\x0a", "x", "o=x"} {
		yield(api.Node{Tag: n.Tag, Data: s, Kids: n.Kids})
	}
	for at := range len(n.Kids) + 1 {
		for _, one := range append(pieces(), api.Node{}) {
			yield(api.Node{Tag: n.Tag, Data: n.Data, Kids: slices.Insert(slices.Clone(n.Kids), at, one)})
		}
	}
	for at := range n.Kids {
		yield(api.Node{Tag: n.Tag, Data: n.Data, Kids: slices.Delete(slices.Clone(n.Kids), at, at+1)})
		if at > 0 {
			l := slices.Clone(n.Kids)
			l[at], l[at-1] = l[at-1], l[at]
			yield(api.Node{Tag: n.Tag, Data: n.Data, Kids: l})
		}
	}
}

// changes yields a tree with one place of it changed, for each place in it.
func changes(n api.Node, yield func(api.Node)) {
	changesHere(n, yield)
	for at, one := range n.Kids {
		changes(one, func(other api.Node) {
			all := slices.Clone(n.Kids)
			all[at] = other
			yield(api.Node{Tag: n.Tag, Data: n.Data, Kids: all})
		})
	}
}

// P12.2: whatever is changed at one place of a tree is told, or refused.
func TestEveryChangeOfOnePlace(t *testing.T) {
	for _, m := range examples() {
		n, _ := plain(m)
		changes(n, func(n api.Node) { treeIs(t, n) })
	}
}

// P12.2: a tree has data, or others in it, as its tag says.
func TestDataBesideTrees(t *testing.T) {
	for digits, m := range examples() {
		n, _ := plain(m)
		beside(n, func(n api.Node) {
			if treeIs(t, n) {
				t.Errorf("%s is read with both", digits)
			}
		})
	}
}

// beside yields a tree with what its tag forbids in it, for each tree in it.
func beside(n api.Node, yield func(api.Node)) {
	if n.Tag&0x20 > 0 {
		yield(api.Node{Tag: n.Tag, Data: "x", Kids: n.Kids})
	} else {
		yield(api.Node{Tag: n.Tag, Data: n.Data, Kids: []api.Node{{}}})
	}
	for at, one := range n.Kids {
		beside(one, func(other api.Node) {
			all := slices.Clone(n.Kids)
			all[at] = other
			yield(api.Node{Tag: n.Tag, Data: n.Data, Kids: all})
		})
	}
}

// isRefused holds what is read from a tree that may be too great to be told.
func isRefused(t *testing.T, n api.Node) {
	t.Helper()
	if m, e := rep.Read(n); !reflect.DeepEqual(m, api.Msg{}) || e != api.ErrRep {
		t.Errorf("a tree with the tag %x: %s, %d", n.Tag, brief(m), e)
	}
}

// P12.2: a list of trees that holds itself is left off.
func TestListsThatHoldThemselves(t *testing.T) {
	for _, inside := range append(tags, 0x30, 0x31, 4, 10, 0x80, 0x81, 0x87, 0x8a, 0x8b, 0xa3) {
		l := make([]api.Node, 8)
		for i := range l {
			l[i] = api.Node{Tag: inside, Kids: l}
		}
		for _, tag := range tags {
			isRefused(t, inner(tag, l...))
			isRefused(t, inner(tag, l[0]))
			isRefused(t, inner(tag, text(""), l[0]))
			isRefused(t, inner(tag, text(""), list(l...)))
			isRefused(t, inner(tag, text(""), list(list(text("a"), l[0]))))
			isRefused(t, inner(tag, leaf(10, "\x0a"), text(""), text(""), l[0]))
			isRefused(t, inner(tag, leaf(10, "\x0a"), text(""), text(""), inner(0xa3, l...)))
			isRefused(t, inner(tag, leaf(10, "\x00"), text(""), text(""), l[0]))
			isRefused(t, inner(tag, leaf(0x80, "1.2"), l[0]))
		}
	}
}

// P12.2: many trees that are one and the same are left off too.
func TestLongLists(t *testing.T) {
	long := letters(1 << 20)
	for _, s := range []string{"", "u", long} {
		many := slices.Repeat([]api.Node{text(s)}, 1<<18)
		attrs := slices.Repeat([]api.Node{list(text(s), inner(0x31, many...))}, 1<<10)
		for _, tag := range append(tags, 0x30) {
			isRefused(t, inner(tag, many...))
			isRefused(t, inner(tag, text(""), list(many...)))
			isRefused(t, inner(tag, text(""), list(attrs...)))
			isRefused(t, inner(tag, leaf(10, "\x0a"), text(""), text(""), inner(0xa3, many...)))
			isRefused(t, inner(tag, append([]api.Node{leaf(10, "\x00"), text(""), text("")}, many...)...))
		}
	}
}

// P12.1: a filter that holds itself is left off.
func TestFiltersThatHoldThemselves(t *testing.T) {
	for kind := range 3 {
		l := make([]api.Filter, 8)
		for i := range l {
			l[i] = api.Filter{Kind: kind, L: l}
		}
		for _, op := range ops {
			m := api.Msg{Op: op, Search: api.Search{Filter: l[0]}}
			if n, e := rep.Tree(m); rep.Right(m) || !reflect.DeepEqual(n, api.Node{}) || e != api.ErrRep {
				t.Error(op, e)
			}
		}
	}
}

// maker makes messages, most of them right, and changes trees.
type maker struct{ *rand.Rand }

func (m maker) text(most int) string {
	s := make([]byte, m.Intn(most+1))
	for i := range s {
		s[i] = byte(m.Intn(256))
	}
	return string(s)
}

// some is one of a list, the first ones more often.
func some[T any](m maker, l ...T) T { return l[m.Intn(m.Intn(len(l))+1)] }

func (m maker) yes() bool { return m.Intn(2) == 0 }

func (m maker) name() string {
	if m.Intn(40) == 0 {
		return m.text(4)
	}
	var d []api.Rdn
	for range m.Intn(3) {
		d = append(d, api.Rdn{L: []api.Ava{{Type: some(m, "cn", "1.2"), Value: m.text(19)}}})
	}
	s, _ := dn.Print(d)
	return s
}

func (m maker) attrs() []api.Attr {
	var l []api.Attr
	for range m.Intn(8) {
		a := attr(some(m, "a", "cn;lang-de", "2.5.4.3;x;y", letters(20), "b", "a;", ""))
		for range m.Intn(some(m, 7, 8)) {
			a.Values = append(a.Values, m.text(some(m, 10, 200, 201)))
		}
		l = append(l, a)
	}
	return l
}

func (m maker) refs(most int) []string {
	var l []string
	for range m.Intn(most + 1) {
		l = append(l, some(m, "ldap:///", "a", "\xc3\xa9", letters(60), strings.Repeat("\xe2\x82\xac", 20), letters(61), "", m.text(3)))
	}
	return l
}

func (m maker) msg() api.Msg {
	all := api.Msg{Op: ops[m.Intn(len(ops))], Dn: m.name(), Attrs: m.attrs(), Refs: m.refs(4)}
	all.Result = api.Result{Code: m.Intn(some(m, 201, 203)), Dn: m.name(), Text: some(m, "", "no such thing", "\xc3\xa9", letters(60), letters(61), "\xff")}
	if m.yes() {
		all.Result.Code, all.Result.Refs = some(m, 10, 10, 9), m.refs(4)
	}
	all.Ext = api.Ext{Oid: some(m, "", "1.2", "2.5.4.3", "cn"), Has: m.yes()}
	if all.Ext.Has || m.Intn(30) == 0 {
		all.Ext.Value = m.text(some(m, 200, 201))
	}
	if m.Intn(3) == 0 {
		all.Ext.Oid = ""
	}
	return all
}

// change changes one of a tree's trees, if it has some, or itself.
func (m maker) change(n api.Node) api.Node {
	if len(n.Kids) > 0 && m.Intn(4) > 0 {
		n.Kids = slices.Clone(n.Kids)
		at := m.Intn(len(n.Kids))
		n.Kids[at] = m.change(n.Kids[at])
		return n
	}
	all := []api.Node{}
	changesHere(n, func(n api.Node) { all = append(all, n) })
	return all[m.Intn(len(all))]
}

// P12.1, P12.2, P12.3
func TestAnyMessages(t *testing.T) {
	m := maker{rand.New(rand.NewSource(12))}
	right := map[int]int{}
	for range 20000 {
		all := m.msg()
		if m.Intn(50) > 0 {
			all = bare(all)
		}
		if msgIs(t, all) {
			right[all.Op]++
		}
		n, _ := plain(all)
		treeIs(t, n)
		if m.Intn(10) == 0 {
			treeIs(t, m.change(n))
		}
	}
	for _, op := range ops {
		if right[op] < 200 {
			t.Errorf("just %d of the operation %d are right", right[op], op)
		}
	}
}

// spoil writes into a thing's lists, and their spare room.
func spoil(v reflect.Value) {
	switch v.Kind() {
	case reflect.Slice:
		for i := range v.Len() {
			spoil(v.Index(i))
		}
		v = v.Slice(0, v.Cap())
		for i := range v.Len() {
			v.Index(i).SetZero()
		}
	case reflect.Struct:
		for i := range v.NumField() {
			spoil(v.Field(i))
		}
	}
}

// shared tells whether lists of a thing share memory, spare room too; seen are those that were gone through so far, which are kept, so that nothing new may stand where they stood.
func shared(v reflect.Value, seen map[uintptr]reflect.Value) bool {
	found := false
	switch v.Kind() {
	case reflect.Slice:
		for i := range v.Len() {
			found = shared(v.Index(i), seen) || found
		}
		step := max(v.Type().Elem().Size(), 1)
		kept := v.Slice(0, v.Cap()) // also when what v stands in is spoilt
		for i := range v.Cap() {
			at := v.Pointer() + uintptr(i)*step
			_, known := seen[at]
			found = found || known
			seen[at] = kept
		}
	case reflect.Struct:
		for i := range v.NumField() {
			found = shared(v.Field(i), seen) || found
		}
	}
	return found
}

// R3: what is answered is new memory, no two lists of it share any.
func TestAnswersShareNothing(t *testing.T) {
	for digits, m := range examples() {
		want, _ := plain(m)
		seen := map[uintptr]reflect.Value{}
		shared(reflect.ValueOf(m), seen)
		shared(reflect.ValueOf(want), seen)
		for range 2 {
			n, _ := rep.Tree(m)
			again, _ := rep.Read(want)
			if shared(reflect.ValueOf(n), seen) || shared(reflect.ValueOf(again), seen) {
				t.Errorf("%s: lists share", digits)
			}
			spoil(reflect.ValueOf(&n).Elem())
			spoil(reflect.ValueOf(&again).Elem())
		}
		if tree, _ := plain(m); !tlv.Same(tree, want) || !msgIs(t, m) || !treeIs(t, want) {
			t.Errorf("%s: something is changed", digits)
		}
	}
}

// roomy is a copy of a thing, with spare room behind each list, which is marked.
func roomy(v reflect.Value, mark func(reflect.Value)) reflect.Value {
	made := reflect.New(v.Type()).Elem()
	switch v.Kind() {
	case reflect.Slice:
		all := reflect.MakeSlice(v.Type(), v.Len()+2, v.Len()+2)
		for i := range v.Len() {
			all.Index(i).Set(roomy(v.Index(i), mark))
		}
		mark(all.Slice(v.Len(), v.Len()+2))
		made.Set(all.Slice(0, v.Len()))
	case reflect.Struct:
		for i := range v.NumField() {
			made.Field(i).Set(roomy(v.Field(i), mark))
		}
	default:
		made.Set(v)
	}
	return made
}

// R3: what is handed in is not written into, nor its spare room.
func TestArgumentsStay(t *testing.T) {
	for digits, m := range examples() {
		var rooms []reflect.Value
		mark := func(v reflect.Value) { rooms = append(rooms, v) }
		all := roomy(reflect.ValueOf(m), mark).Interface().(api.Msg)
		tree, _ := plain(m)
		n := roomy(reflect.ValueOf(tree), mark).Interface().(api.Node)
		if !msgIs(t, all) || !treeIs(t, n) || !sameMsg(all, m) || !tlv.Same(n, tree) {
			t.Errorf("%s: something is changed", digits)
		}
		for _, v := range rooms {
			if !v.Index(0).IsZero() || !v.Index(1).IsZero() {
				t.Errorf("%s: spare room is changed", digits)
			}
		}
	}
}

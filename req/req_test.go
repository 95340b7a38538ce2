package req_test

import (
	"encoding/hex"
	"fmt"
	"math"
	"math/rand"
	"reflect"
	"regexp"
	"slices"
	"strings"
	"testing"

	"latiner/api"
	"latiner/dn"
	"latiner/fber"
	"latiner/filt"
	"latiner/part"
	"latiner/req"
	"latiner/tlv"
)

func letters(n int) string { return strings.Repeat("a", n) }

func leaf(tag int, data string) api.Node { return api.Node{Tag: tag, Data: data} }

func inner(tag int, kids ...api.Node) api.Node { return api.Node{Tag: tag, Kids: kids} }

func text(s string) api.Node { return leaf(4, s) }

func list(l ...api.Node) api.Node { return inner(0x30, l...) }

func texts(l ...string) api.Node {
	n := list()
	for _, s := range l {
		n.Kids = append(n.Kids, text(s))
	}
	return n
}

func attr(name string, values ...string) api.Attr { return api.Attr{Name: name, Values: values} }

func present(name string) api.Filter { return api.Filter{Kind: api.Present, Name: name} }

func parse(s string) api.Filter {
	f, e := filt.Parse(s)
	if e != api.OK {
		panic(s)
	}
	return f
}

// brief is what is told of anything, however great it is.
func brief(what any) string { return fmt.Sprintf("%.400s", fmt.Sprintf("%#v", what)) }

// same tells whether two things are, list by list; nil and empty lists are one.
func same(a, b reflect.Value) bool {
	switch a.Kind() {
	case reflect.Slice:
		if a.Len() != b.Len() {
			return false
		}
		for i := range a.Len() {
			if !same(a.Index(i), b.Index(i)) {
				return false
			}
		}
		return true
	case reflect.Struct:
		for i := range a.NumField() {
			if !same(a.Field(i), b.Field(i)) {
				return false
			}
		}
		return true
	}
	return a.Interface() == b.Interface()
}

func sameMsg(a, b api.Msg) bool { return same(reflect.ValueOf(a), reflect.ValueOf(b)) }

// A second telling of the chapter's words, as plain as can be.

// ops are the operations that are requests, tags their trees'.
var (
	ops  = []int{0, 2, 3, 6, 8, 10, 12, 14, 16, 23}
	tags = []int{0x60, 0x42, 0x63, 0x66, 0x68, 0x4a, 0x6c, 0x6e, 0x50, 0x77}
)

// bare is a message with just the fields that its operation uses.
func bare(m api.Msg) api.Msg {
	switch m.Op {
	case 0:
		return api.Msg{Op: 0, Dn: m.Dn, Bind: m.Bind}
	case 2:
		return api.Msg{Op: 2}
	case 3:
		return api.Msg{Op: 3, Dn: m.Dn, Search: m.Search}
	case 6:
		return api.Msg{Op: 6, Dn: m.Dn, Changes: m.Changes}
	case 8, 14:
		return api.Msg{Op: m.Op, Dn: m.Dn, Attrs: m.Attrs}
	case 10:
		return api.Msg{Op: 10, Dn: m.Dn}
	case 12:
		return api.Msg{Op: 12, Dn: m.Dn, Move: m.Move}
	case 16:
		return api.Msg{Op: 16, Target: m.Target}
	case 23:
		return api.Msg{Op: 23, Ext: m.Ext}
	}
	return api.Msg{}
}

// bytesOf are a number's, as few as can be, of any number from 0 on.
func bytesOf(n int) string {
	s := string([]byte{byte(n)})
	for n > 127 {
		n >>= 8
		s = string([]byte{byte(n)}) + s
	}
	return s
}

func boolOf(b bool) api.Node { return leaf(1, map[bool]string{true: "\xff", false: "\x00"}[b]) }

var mechForm = regexp.MustCompile(`^[A-Z0-9_-]{1,20}$`)

var oidForm = regexp.MustCompile(`^(0|[1-9][0-9]*)(\.(0|[1-9][0-9]*))+$`)

func isOid(s string) bool { return len(s) <= 20 && oidForm.MatchString(s) }

func isDn(s string) bool {
	_, e := dn.Parse(s)
	return len(s) <= 200 && e == api.OK
}

func isRdn(s string) bool {
	d, _ := dn.Parse(s)
	return isDn(s) && len(d) == 1
}

func upTo(most int, l ...int) bool {
	return slices.Min(l) >= 0 && slices.Max(l) <= most
}

// plain is a message's tree, if the message is a right request.
func plain(m api.Msg) (api.Node, bool) {
	if !slices.Contains(ops, m.Op) || !sameMsg(m, bare(m)) || !isDn(m.Dn) {
		return api.Node{}, false
	}
	switch m.Op {
	case 0:
		return plainBind(m)
	case 2:
		return leaf(0x42, ""), true
	case 3:
		return plainSearch(m)
	case 6:
		all, right := list(), len(m.Changes) >= 1 && len(m.Changes) <= 6
		for _, c := range m.Changes {
			n, e := part.Change(c)
			all.Kids, right = append(all.Kids, n), right && e == api.OK
		}
		return inner(0x66, text(m.Dn), all), right
	case 8:
		all, right := list(), len(m.Attrs) >= 1 && len(m.Attrs) <= 6
		for _, a := range m.Attrs {
			n, e := part.Attr(a, 1)
			all.Kids, right = append(all.Kids, n), right && e == api.OK
		}
		return inner(0x68, text(m.Dn), all), right
	case 10:
		return leaf(0x4a, m.Dn), true
	case 12:
		n := inner(0x6c, text(m.Dn), text(m.Move.Rdn), boolOf(m.Move.DeleteOld))
		if m.Move.Has {
			n.Kids = append(n.Kids, leaf(0x80, m.Move.Superior))
		}
		return n, isRdn(m.Move.Rdn) && isDn(m.Move.Superior) && (m.Move.Has || m.Move.Superior == "")
	case 14:
		if len(m.Attrs) != 1 || len(m.Attrs[0].Values) != 1 {
			return api.Node{}, false
		}
		name, value := m.Attrs[0].Name, m.Attrs[0].Values[0]
		return inner(0x6e, text(m.Dn), texts(name, value)), filt.IsName(name) && len(value) <= 200
	case 16:
		return leaf(0x50, bytesOf(m.Target)), upTo(2147483647, m.Target)
	}
	n := inner(0x77, leaf(0x80, m.Ext.Oid))
	if m.Ext.Has {
		n.Kids = append(n.Kids, leaf(0x81, m.Ext.Value))
	}
	return n, isOid(m.Ext.Oid) && len(m.Ext.Value) <= 200 && (m.Ext.Has || m.Ext.Value == "")
}

func plainBind(m api.Msg) (api.Node, bool) {
	b := m.Bind
	n := inner(0x60, leaf(2, "\x03"), text(m.Dn))
	if b.Simple {
		n.Kids = append(n.Kids, leaf(0x80, b.Auth))
		return n, len(b.Auth) <= 200 && b.Mech == "" && !b.Has
	}
	mech := inner(0xa3, text(b.Mech))
	if b.Has {
		mech.Kids = append(mech.Kids, text(b.Auth))
	}
	n.Kids = append(n.Kids, mech)
	return n, mechForm.MatchString(b.Mech) && len(b.Auth) <= 200 && (b.Has || b.Auth == "")
}

func plainSearch(m api.Msg) (api.Node, bool) {
	s := m.Search
	right := upTo(2, s.Scope) && upTo(3, s.Deref) && upTo(2147483647, s.Size, s.Time) && len(s.Names) <= 6
	for _, name := range s.Names {
		right = right && (name == "*" || filt.IsName(name))
	}
	filter, e := fber.Tree(s.Filter)
	return inner(0x63, text(m.Dn), leaf(10, bytesOf(s.Scope)), leaf(10, bytesOf(s.Deref)), leaf(2, bytesOf(s.Size)), leaf(2, bytesOf(s.Time)), boolOf(s.TypesOnly), filter, texts(s.Names...)), right && e == api.OK
}

func node(kids []api.Node, at int) api.Node {
	if at < len(kids) {
		return kids[at]
	}
	return api.Node{}
}

func datas(kids []api.Node) []string {
	var l []string
	for _, kid := range kids {
		l = append(l, kid.Data)
	}
	return l
}

// numberOf is what bytes tell, if they are few; whether they are a number's own its tree tells.
func numberOf(n api.Node) int {
	all := 0
	for i := range min(len(n.Data), 6) {
		all = all<<8 | int(n.Data[i])
	}
	return all
}

// guess is the only request whose tree one may be, beside the tree with ff in 01.
func guess(n api.Node) (api.Msg, api.Node) {
	k := slices.Clone(n.Kids)
	n.Kids = k
	yes := func(at int) bool {
		if at >= len(k) || len(k[at].Data) != 1 || k[at].Data == "\x00" {
			return false
		}
		k[at].Data = "\xff"
		return true
	}
	m := api.Msg{Op: -1, Dn: node(k, 0).Data}
	switch n.Tag {
	case 0x60:
		m.Op, m.Dn = 0, node(k, 1).Data
		proof := node(k, 2)
		m.Bind = api.Bind{Simple: proof.Tag == 0x80, Auth: proof.Data}
		if !m.Bind.Simple {
			m.Bind = api.Bind{Mech: node(proof.Kids, 0).Data, Auth: node(proof.Kids, 1).Data, Has: len(proof.Kids) > 1}
		}
	case 0x42:
		m.Op, m.Dn = 2, ""
	case 0x63:
		f, _ := fber.Read(node(k, 6))
		m.Op, m.Search = 3, api.Search{Scope: numberOf(node(k, 1)), Deref: numberOf(node(k, 2)), Size: numberOf(node(k, 3)), Time: numberOf(node(k, 4)), TypesOnly: yes(5), Filter: f, Names: datas(node(k, 7).Kids)}
	case 0x66:
		m.Op = 6
		for _, kid := range node(k, 1).Kids {
			c, _ := part.ReadChange(kid)
			m.Changes = append(m.Changes, c)
		}
	case 0x68:
		m.Op = 8
		for _, kid := range node(k, 1).Kids {
			a, _ := part.ReadAttr(kid, 1)
			m.Attrs = append(m.Attrs, a)
		}
	case 0x4a:
		m.Op, m.Dn = 10, n.Data
	case 0x6c:
		m.Op, m.Move = 12, api.Move{Rdn: node(k, 1).Data, DeleteOld: yes(2), Superior: node(k, 3).Data, Has: len(k) > 3}
	case 0x6e:
		m.Op, m.Attrs = 14, []api.Attr{attr(node(node(k, 1).Kids, 0).Data, node(node(k, 1).Kids, 1).Data)}
	case 0x50:
		m.Op, m.Dn, m.Target = 16, "", numberOf(n)
	case 0x77:
		m.Op, m.Dn, m.Ext = 23, "", api.Ext{Oid: node(k, 0).Data, Value: node(k, 1).Data, Has: len(k) > 1}
	}
	return m, n
}

// msgIs holds what is told of a message, what is made of it, and what is read from that, against the chapter's words; it tells whether it is right.
func msgIs(t *testing.T, m api.Msg) bool {
	t.Helper()
	want, ok := plain(m)
	n, e := req.Tree(m)
	if req.Right(m) != ok {
		t.Fatalf("Right(%s) is not %v", brief(m), ok)
	}
	if !ok {
		if !reflect.DeepEqual(n, api.Node{}) || e != api.ErrReq {
			t.Fatalf("Tree(%s) = %s, %d; want ErrReq", brief(m), brief(n), e)
		}
		return false
	}
	if !tlv.Same(n, want) || e != api.OK || !req.Is(m.Op) {
		t.Fatalf("Tree(%s) = %s, %d; want %s", brief(m), brief(n), e, brief(want))
	}
	if again, e := req.Read(n); !sameMsg(again, m) || e != api.OK {
		t.Fatalf("Read(%s) = %s, %d; want %s", brief(n), brief(again), e, brief(m))
	}
	return true
}

// treeIs holds what is read from a tree against the chapter's words; it tells whether it may be read.
func treeIs(t *testing.T, n api.Node) bool {
	t.Helper()
	want, normal := guess(n)
	tree, right := plain(want)
	ok := right && tlv.Same(tree, normal)
	m, e := req.Read(n)
	if !ok {
		if !reflect.DeepEqual(m, api.Msg{}) || e != api.ErrReq {
			t.Fatalf("Read(%s) = %s, %d; want ErrReq", brief(n), brief(m), e)
		}
		return false
	}
	if !sameMsg(m, want) || e != api.OK || !req.Right(m) {
		t.Fatalf("Read(%s) = %s, %d; want %s", brief(n), brief(m), e, brief(want))
	}
	return true
}

func unhex(t *testing.T, digits string) string {
	t.Helper()
	s, err := hex.DecodeString(strings.ReplaceAll(digits, " ", ""))
	if err != nil {
		t.Fatal(err)
	}
	return string(s)
}

// examples are right requests, beside the bytes of their trees, in digits.
func examples() map[string]api.Msg {
	six := attr("a", "1", "2", "3", "4", "5", "6")
	return map[string]api.Msg{
		"60 07 02 01 03 04 00 80 00":                          {Op: 0, Bind: api.Bind{Simple: true}},
		"60 0c 02 01 03 04 03 6f3d78 80 02 00ff":              {Op: 0, Dn: "o=x", Bind: api.Bind{Simple: true, Auth: "\x00\xff"}},
		"60 0a 02 01 03 04 00 a3 03 04 01 58":                 {Op: 0, Bind: api.Bind{Mech: "X"}},
		"60 0f 02 01 03 04 00 a3 08 04 04 4139 2d5f 04 00":    {Op: 0, Bind: api.Bind{Mech: "A9-_", Has: true}},
		"60 10 02 01 03 04 03 6f3d78 a3 06 04 01 30 04 01 80": {Op: 0, Dn: "o=x", Bind: api.Bind{Mech: "0", Auth: "\x80", Has: true}},
		"42 00": {Op: 2},
		"63 16 04 00 0a 01 00 0a 01 00 02 01 00 02 01 00 01 01 00 87 01 61 30 00":                                                        {Op: 3, Search: api.Search{Filter: present("a")}},
		"63 25 04 03 6f3d78 0a 01 02 0a 01 03 02 04 7fffffff 02 02 0080 01 01 ff 87 01 61 30 08 04 01 2a 04 03 613b78":                   {Op: 3, Dn: "o=x", Search: api.Search{Scope: 2, Deref: 3, Size: 2147483647, Time: 128, TypesOnly: true, Filter: present("a"), Names: []string{"*", "a;x"}}},
		"63 20 04 00 0a 01 01 0a 01 01 02 01 01 02 01 02 01 01 00 a2 08 a3 06 04 01 61 04 01 62 30 03 04 01 2a":                          {Op: 3, Search: api.Search{Scope: 1, Deref: 1, Size: 1, Time: 2, Filter: parse("(!(a=b))"), Names: []string{"*"}}},
		"66 10 04 00 30 0c 30 0a 0a 01 02 30 05 04 01 61 31 00":                                                                          {Op: 6, Changes: []api.Change{{Kind: 2, Attr: attr("a")}}},
		"66 22 04 03 6f3d78 30 1b 30 0d 0a 01 00 30 08 04 01 61 31 03 04 01 62 30 0a 0a 01 01 30 05 04 01 61 31 00":                      {Op: 6, Dn: "o=x", Changes: []api.Change{{Attr: attr("a", "b")}, {Kind: 1, Attr: attr("a")}}},
		"68 0e 04 00 30 0a 30 08 04 01 61 31 03 04 01 62":                                                                                {Op: 8, Attrs: []api.Attr{attr("a", "b")}},
		"68 29 04 03 6f3d78 30 22 30 17 04 01 61 31 12 04 01 31 04 01 32 04 01 33 04 01 34 04 01 35 04 01 36 30 07 04 01 61 31 02 04 00": {Op: 8, Dn: "o=x", Attrs: []api.Attr{six, attr("a", "")}},
		"4a 00":                               {Op: 10},
		"4a 03 6f3d78":                        {Op: 10, Dn: "o=x"},
		"6c 0b 04 00 04 04 636e3d62 01 01 00": {Op: 12, Move: api.Move{Rdn: "cn=b"}},
		"6c 10 04 03 6f3d78 04 04 636e3d62 01 01 ff 80 00":         {Op: 12, Dn: "o=x", Move: api.Move{Rdn: "cn=b", DeleteOld: true, Has: true}},
		"6c 14 04 00 04 08 636e3d622b6f3d63 01 01 00 80 03 6f3d78": {Op: 12, Move: api.Move{Rdn: "cn=b+o=c", Superior: "o=x", Has: true}},
		"6e 0a 04 00 30 06 04 01 61 04 01 62":                      {Op: 14, Attrs: []api.Attr{attr("a", "b")}},
		"6e 0c 04 03 6f3d78 30 05 04 01 61 04 00":                  {Op: 14, Dn: "o=x", Attrs: []api.Attr{attr("a", "")}},
		"50 01 00":                    {Op: 16},
		"50 01 7f":                    {Op: 16, Target: 127},
		"50 02 0080":                  {Op: 16, Target: 128},
		"50 04 7fffffff":              {Op: 16, Target: 2147483647},
		"77 05 80 03 312e32":          {Op: 23, Ext: api.Ext{Oid: "1.2"}},
		"77 07 80 03 312e32 81 00":    {Op: 23, Ext: api.Ext{Oid: "1.2", Has: true}},
		"77 08 80 03 312e32 81 01 76": {Op: 23, Ext: api.Ext{Oid: "1.2", Value: "v", Has: true}},
	}
}

// P11.1, P11.2, P11.3
func TestExamples(t *testing.T) {
	for digits, m := range examples() {
		want := unhex(t, digits)
		n, e := req.Tree(m)
		if s, wrong := tlv.Encode(n); s != want || e != api.OK || wrong != api.OK || !req.Right(m) {
			t.Errorf("Tree(%s): %x, %d, %d; want %x", brief(m), s, e, wrong, want)
		}
		n, wrong := tlv.Whole(want)
		if again, e := req.Read(n); !sameMsg(again, m) || e != api.OK || wrong != api.OK {
			t.Errorf("Read of %x = %s, %d, %d; want %s", want, brief(again), e, wrong, brief(m))
		}
		if !msgIs(t, m) || !treeIs(t, n) {
			t.Errorf("not right: %s", brief(m))
		}
	}
}

// P11.1
func TestIs(t *testing.T) {
	all := []int{math.MinInt, math.MaxInt, 1 << 32, 1<<32 + 2, -1 << 32, 1 << 31, -1 << 31}
	for op := -300; op < 600; op++ {
		all = append(all, op)
	}
	right := 0
	for _, op := range all {
		if req.Is(op) != slices.Contains(ops, op) {
			t.Errorf("Is(%d)", op)
		}
		for _, m := range examples() {
			m.Op = op
			if msgIs(t, m) {
				right++
			}
		}
	}
	if right != len(examples())+3+6 { // themselves; one value of one attribute, to add, may be compared, and the other way; what is empty is OpUnbind, OpDelete and OpAbandon
		t.Errorf("%d are right", right)
	}
}

// fillings are messages with something in one field that is not their operation's number.
func fillings() map[string]api.Msg {
	return map[string]api.Msg{
		"an Id":            {Id: 1},
		"an Id below 0":    {Id: -1},
		"a Dn":             {Dn: "o=x"},
		"an empty attr":    {Attrs: []api.Attr{{}}},
		"an attr":          {Attrs: []api.Attr{attr("a", "b")}},
		"an empty change":  {Changes: []api.Change{{}}},
		"a change":         {Changes: []api.Change{{Attr: attr("a", "b")}}},
		"a Scope":          {Search: api.Search{Scope: 1}},
		"a Deref":          {Search: api.Search{Deref: 1}},
		"a Size":           {Search: api.Search{Size: 1}},
		"a Time":           {Search: api.Search{Time: 1}},
		"TypesOnly":        {Search: api.Search{TypesOnly: true}},
		"a filter's Kind":  {Search: api.Search{Filter: api.Filter{Kind: 1}}},
		"a filter's Name":  {Search: api.Search{Filter: api.Filter{Name: "a"}}},
		"a filter's Value": {Search: api.Search{Filter: api.Filter{Value: "a"}}},
		"a filter's Final": {Search: api.Search{Filter: api.Filter{Final: "a"}}},
		"a filter's Any":   {Search: api.Search{Filter: api.Filter{Any: []string{""}}}},
		"a filter's L":     {Search: api.Search{Filter: api.Filter{L: []api.Filter{{}}}}},
		"a filter":         {Search: api.Search{Filter: present("a")}},
		"an empty name":    {Search: api.Search{Names: []string{""}}},
		"a name":           {Search: api.Search{Names: []string{"*"}}},
		"an Rdn":           {Move: api.Move{Rdn: "o=y"}},
		"DeleteOld":        {Move: api.Move{DeleteOld: true}},
		"a Superior":       {Move: api.Move{Superior: "o=y"}},
		"it has one":       {Move: api.Move{Has: true}},
		"Simple":           {Bind: api.Bind{Simple: true}},
		"Auth":             {Bind: api.Bind{Auth: "a"}},
		"a Mech":           {Bind: api.Bind{Mech: "A"}},
		"it has some":      {Bind: api.Bind{Has: true}},
		"an Oid":           {Ext: api.Ext{Oid: "1.2"}},
		"a Value":          {Ext: api.Ext{Value: "v"}},
		"it has a Value":   {Ext: api.Ext{Has: true}},
		"a Code":           {Result: api.Result{Code: 1}},
		"a result's Dn":    {Result: api.Result{Dn: "o=x"}},
		"a Text":           {Result: api.Result{Text: "a"}},
		"a result's Refs":  {Result: api.Result{Refs: []string{""}}},
		"Refs":             {Refs: []string{"u"}},
		"an empty ref":     {Refs: []string{""}},
		"a Target":         {Target: 1},
		"a Target below 0": {Target: -1},
		"a control":        {Controls: []api.Control{{Oid: "1.2"}}},
		"an empty control": {Controls: []api.Control{{}}},
	}
}

// fill puts what another message has into a message, where that has nothing.
func fill(m, more api.Msg) api.Msg {
	merge(reflect.ValueOf(&m).Elem(), reflect.ValueOf(more))
	return m
}

func merge(to, from reflect.Value) {
	if to.Kind() == reflect.Struct {
		for i := range to.NumField() {
			merge(to.Field(i), from.Field(i))
		}
	} else if to.IsZero() {
		to.Set(from)
	}
}

// P11.1: what an operation does not use is empty.
func TestEveryOtherField(t *testing.T) {
	none := reflect.TypeOf(api.Msg{})
	for why, more := range fillings() {
		field := 0
		for i := range none.NumField() {
			if !reflect.ValueOf(more).Field(i).IsZero() {
				field = i
			}
		}
		for _, m := range examples() {
			all := fill(m, more)
			used := !reflect.ValueOf(bare(all)).Field(field).IsZero()
			if ok := msgIs(t, all); ok && !used {
				t.Errorf("operation %d with %s is right", m.Op, why)
			}
		}
	}
}

// P11.1: nil and empty lists are one.
func TestEmptyLists(t *testing.T) {
	for _, m := range examples() {
		lists := api.Msg{Attrs: []api.Attr{}, Changes: []api.Change{}, Refs: []string{}, Controls: []api.Control{}}
		lists.Search.Names, lists.Search.Filter.Any, lists.Search.Filter.L, lists.Result.Refs = []string{}, []string{}, []api.Filter{}, []string{}
		if all := fill(m, lists); !msgIs(t, all) {
			t.Errorf("not right: %s", brief(all))
		}
		n, _ := plain(m)
		if !treeIs(t, withEmptyLists(n)) {
			t.Errorf("not read: %s", brief(n))
		}
	}
}

func withEmptyLists(n api.Node) api.Node {
	kids := []api.Node{}
	for _, kid := range n.Kids {
		kids = append(kids, withEmptyLists(kid))
	}
	n.Kids = kids
	return n
}

// sizes are texts, as many bytes as limits may ask for.
func sizes(l ...int) []string {
	var all []string
	for _, n := range l {
		all = append(all, letters(n))
	}
	return all
}

// longDn has 194 bytes, and wants a value.
var longDn = strings.Repeat("cn="+letters(60)+",", 3) + "o="

// dns are names' texts, and what is none.
func dns() map[string]bool {
	return map[string]bool{
		"": true, "o=x": true, `cn=a\,b+sn=c,o=x`: true, "1.2=": true, longDn + letters(6): true, strings.Repeat("o=a,", 7) + "o=a": true,
		longDn + letters(7): false, "o": false, "cn": false, "=a": false, "o=x,": false, "o=a;b": false, "o=\xff": false, " ": false, "o=" + letters(61): false, strings.Repeat("o=a,", 8) + "o=a": false, letters(1 << 20): false,
	}
}

// P11.1, P11.2, P11.3
func TestDns(t *testing.T) {
	for name, right := range dns() {
		for _, m := range examples() {
			n, _ := plain(m)
			m.Dn = name
			want := right && (name == "" || m.Op != 2 && m.Op != 16 && m.Op != 23)
			if msgIs(t, m) != want {
				t.Errorf("operation %d of %.60q is not %v", m.Op, name, want)
			}
			switch m.Op {
			case 0:
				n.Kids[1] = text(name)
			case 3, 6, 8, 12, 14:
				n.Kids[0] = text(name)
			case 10:
				n.Data = name
			default:
				continue
			}
			if treeIs(t, n) != right {
				t.Errorf("the tree of operation %d of %.60q is not %v", m.Op, name, right)
			}
		}
	}
}

// P11.1, P11.2, P11.3
func TestBinds(t *testing.T) {
	right := 0
	mechs := []string{"", "A", "AZ09-_", "-", "_", "0", strings.Repeat("A", 20), strings.Repeat("A", 21), "a", "Aa", "aA", "A A", "A.", "A\x00", "\xc3\x84", "A\n", strings.Repeat("A", 1<<20)}
	for _, mech := range mechs {
		for _, auth := range append(sizes(0, 1, 199, 200, 201, 1<<20), "\x00\xff") {
			for i := range 4 {
				b := api.Bind{Simple: i&1 > 0, Has: i&2 > 0, Mech: mech, Auth: auth}
				if msgIs(t, api.Msg{Bind: b}) {
					right++
				}
			}
			for _, proof := range []api.Node{leaf(0x80, auth), inner(0xa3, text(mech)), inner(0xa3, text(mech), text(auth)), inner(0xa3, leaf(0x80, auth)), inner(0xa3, text(mech), leaf(0x80, auth)), leaf(0x83, mech), text(mech)} {
				treeIs(t, inner(0x60, leaf(2, "\x03"), text(""), proof))
			}
		}
	}
	if right != 5+6*(5+1) {
		t.Errorf("%d are right", right)
	}
	for b := range 256 {
		one := string([]byte{byte(b)})
		for _, mech := range []string{one, "A" + one, one + "A", "A" + one + "A"} {
			want := one >= "A" && one <= "Z" || one >= "0" && one <= "9" || one == "-" || one == "_"
			if msgIs(t, api.Msg{Bind: api.Bind{Mech: mech}}) != want {
				t.Errorf("mechanism %q", mech)
			}
		}
	}
}

// P11.2: just the bytes of 3 tell the version.
func TestVersions(t *testing.T) {
	read := 0
	for _, more := range []string{"", "\x00", "\x03", "\xff", "\x00\x00", "\x00\x00\x00"} {
		for b := range 256 {
			one := string([]byte{byte(b)})
			for _, s := range []string{more, one + more, more + one} {
				if treeIs(t, inner(0x60, leaf(2, s), text(""), leaf(0x80, ""))) {
					read++
					if s != "\x03" {
						t.Errorf("version %x", s)
					}
				}
			}
		}
	}
	if read == 0 {
		t.Error("no version is read")
	}
}

// edges are numbers, right and not.
func edges() []int {
	all := []int{math.MinInt, math.MaxInt, -1 << 32, -1 << 31, -1<<31 - 1, -256, -129, 255, 256, 32767, 32768, 65535, 65536, 1<<23 - 1, 1 << 23, 1 << 24, 1<<31 - 2, 1<<31 - 1, 1 << 31, 1<<31 + 1, 1<<32 - 1, 1 << 32, 1<<32 + 1, 1 << 40}
	for n := -3; n < 131; n++ {
		all = append(all, n)
	}
	return all
}

// bytesOfEdges are some numbers' bytes, and some that are none's.
func bytesOfEdges() []string {
	all := []string{"", "\xff", "\x80", "\x00\x00", "\x00\x01", "\x00\x7f", "\xff\x7f", "\xff\xff", "\x00\x00\x80", "\x80\x00\x00\x00", "\xff\xff\xff\xff", "\x00\xff\xff\xff\xff", "\x00\x80\x00\x00\x00", "\x01\x00\x00\x00\x00", "\x01\x00\x00\x00\x05", "\x01\x00\x00\x00\x00\x00\x00\x00\x01", letters(1 << 16)}
	for _, n := range edges() {
		all = append(all, bytesOf(max(n, 0)))
	}
	return all
}

// P11.1, P11.2, P11.3
func TestSearchNumbers(t *testing.T) {
	right, read := [4]int{}, [4]int{}
	for at := range 4 {
		for _, n := range edges() {
			s := api.Search{Filter: present("a")}
			*[]*int{&s.Scope, &s.Deref, &s.Size, &s.Time}[at] = n
			if msgIs(t, api.Msg{Op: 3, Search: s}) {
				right[at]++
			}
		}
		tree, _ := plain(api.Msg{Op: 3, Search: api.Search{Filter: present("a")}})
		all := map[string]bool{}
		for _, s := range bytesOfEdges() {
			tree.Kids[at+1].Data = s
			if treeIs(t, tree) {
				all[s] = true
			}
		}
		read[at] = len(all)
	}
	many := 131 + 2 + 4 + 3 + 2 // those from 0 to 130, and of the edges
	if right != [4]int{3, 4, many, many} {
		t.Errorf("%v are right", right)
	}
	if read != [4]int{3, 4, many, many} {
		t.Errorf("%v are read", read)
	}
}

// P11.1, P11.2, P11.3
func TestAbandons(t *testing.T) {
	for _, n := range edges() {
		if msgIs(t, api.Msg{Op: 16, Target: n}) != (n >= 0 && n <= 2147483647) {
			t.Errorf("target %d", n)
		}
	}
	for b := range 256 {
		one := string([]byte{byte(b)})
		for _, s := range append(bytesOfEdges(), one, "\x00"+one, "\x01"+one, one+"\x00", "\xff"+one) {
			treeIs(t, leaf(0x50, s))
		}
	}
	for s, want := range map[string]int{"\x00": 0, "\x7f": 127, "\x00\x80": 128, "\x7f\xff\xff\xff": 2147483647} {
		if m, e := req.Read(leaf(0x50, s)); !sameMsg(m, api.Msg{Op: 16, Target: want}) || e != api.OK {
			t.Errorf("%x: %s, %d", s, brief(m), e)
		}
	}
}

// names are attributes', and what is none.
func names() []string {
	return []string{"a", "cn;lang-de", "2.5.4.3;x;y", letters(20), letters(20) + ";" + letters(9), "", "a;", "1", "a b", "**", "a*", letters(21), letters(20) + ";" + letters(10), "\xc3\xa9", letters(1 << 20)}
}

// P11.1, P11.2, P11.3
func TestSearchNames(t *testing.T) {
	right := 0
	for _, name := range append(names(), "*") {
		for count := range 9 {
			for _, last := range []string{"*", "a", "a;"} {
				l := append(slices.Repeat([]string{name}, count), last)
				if msgIs(t, api.Msg{Op: 3, Search: api.Search{Filter: present("a"), Names: l}}) {
					right++
				}
				tree, _ := plain(api.Msg{Op: 3, Search: api.Search{Filter: present("a")}})
				tree.Kids[7] = texts(l...)
				treeIs(t, tree)
			}
		}
	}
	if right != 6*2*6+10*2 { // of each that is right up to 5 ahead of two; else none ahead
		t.Errorf("%d are right", right)
	}
	for _, count := range []int{7, 100, 1 << 18} {
		l := slices.Repeat([]string{"a"}, count)
		if msgIs(t, api.Msg{Op: 3, Search: api.Search{Filter: present("a"), Names: l}}) {
			t.Errorf("%d names", count)
		}
		tree, _ := plain(api.Msg{Op: 3, Search: api.Search{Filter: present("a")}})
		tree.Kids[7] = texts(l...)
		treeIs(t, tree)
	}
}

// nested is a filter in so many others.
func nested(n int) api.Filter {
	f := present("a")
	for range n {
		f = api.Filter{Kind: api.Not, L: []api.Filter{f}}
	}
	return f
}

// P11.1, P11.2, P11.3
func TestSearchFilters(t *testing.T) {
	for _, s := range []string{"(a=*)", "(a=b)", "(a>=b)", "(a<=b)", "(a~=b)", "(a=x*y*z)", "(&(a=1)(!(b=x*y)))", "(|(a=*)(b=*))", "(a=)", "(a=" + letters(60) + ")"} {
		m := api.Msg{Op: 3, Search: api.Search{Filter: parse(s)}}
		n, _ := plain(m)
		if !msgIs(t, m) || !treeIs(t, n) {
			t.Errorf("filter %.60q", s)
		}
	}
	for deep := range 8 {
		if msgIs(t, api.Msg{Op: 3, Search: api.Search{Filter: nested(deep)}}) != (deep < 6) {
			t.Errorf("a filter in %d", deep)
		}
	}
	tree, _ := plain(api.Msg{Op: 3, Search: api.Search{Filter: present("a")}})
	for i, f := range []api.Filter{{}, {Kind: -1}, {Kind: 9, Name: "a"}, {Kind: 0}, {Kind: 3}, {Kind: 3, Name: "a;"}, {Kind: 7, Name: "a", Value: "b"}, nested(50000)} {
		if msgIs(t, api.Msg{Op: 3, Search: api.Search{Filter: f}}) {
			t.Errorf("filter %d is right", i)
		}
	}
	for i, n := range []api.Node{{}, text("a"), inner(0xa0), inner(0xa9, text("a"), text("b")), leaf(0x87, ""), leaf(0x87, "a;"), inner(0xa3, text("a")), inner(0xa2, leaf(0x87, "a"), leaf(0x87, "a")), leaf(0x80, "a")} {
		tree.Kids[6] = n
		if treeIs(t, tree) {
			t.Errorf("filter's tree %d is read", i)
		}
	}
}

// P11.1, P11.2: what is right is told, though its tree has too many trees for layer 2, or too many bytes.
func TestTreesTooGreatForBytes(t *testing.T) {
	many := api.Filter{Kind: api.And, L: slices.Repeat([]api.Filter{{Kind: api.Or, L: slices.Repeat([]api.Filter{present("a")}, 8)}}, 8)}
	full := attr("a", slices.Repeat([]string{letters(200)}, 6)...)
	for _, m := range []api.Msg{
		{Op: 3, Search: api.Search{Filter: api.Filter{Kind: api.And, L: []api.Filter{many, many, many}}}},
		{Op: 6, Changes: slices.Repeat([]api.Change{{Kind: 0, Attr: full}}, 6)},
		{Op: 8, Attrs: slices.Repeat([]api.Attr{full}, 6)},
	} {
		n, e := req.Tree(m)
		if !msgIs(t, m) || !treeIs(t, n) || e != api.OK || tlv.Right(n) {
			t.Errorf("operation %d: %d", m.Op, e)
		}
	}
}

// P11.1, P11.2, P11.3
func TestModifiesAndAdds(t *testing.T) {
	right := [3]int{}
	for _, name := range names() {
		for _, values := range [][]string{nil, {}, {""}, {"x", "y"}, sizes(200, 0, 0, 0, 0, 0), {letters(201)}, make([]string, 7)} {
			a := attr(name, values...)
			for count := range 9 {
				attrs, changes := slices.Repeat([]api.Attr{a}, count), []api.Change{}
				for i := range count {
					changes = append(changes, api.Change{Kind: i % 3, Attr: a})
				}
				for at, m := range []api.Msg{{Op: 6, Changes: changes}, {Op: 8, Attrs: attrs}, {Op: 14, Attrs: attrs}} {
					if msgIs(t, m) {
						right[at]++
					}
				}
			}
		}
	}
	if right != [3]int{5 * 3 * 6, 5 * 3 * 6, 5 * 1} { // of none no value may be added
		t.Errorf("%v are right", right)
	}
	for kind := -3; kind < 6; kind++ {
		for _, values := range [][]string{nil, {"x"}} {
			want := kind == 0 && len(values) > 0 || kind == 1 || kind == 2
			for at := range 6 {
				l := slices.Repeat([]api.Change{{Kind: 2, Attr: attr("a")}}, 6)
				l[at] = api.Change{Kind: kind, Attr: attr("a", values...)}
				if msgIs(t, api.Msg{Op: 6, Changes: l}) != want {
					t.Errorf("kind %d at %d of %d", kind, at, len(values))
				}
			}
		}
	}
	for at := range 6 {
		for _, bad := range []api.Attr{attr("a"), attr("", "x"), attr("a", letters(201))} {
			l := slices.Repeat([]api.Attr{attr("a", "x")}, 6)
			l[at] = bad
			if msgIs(t, api.Msg{Op: 8, Attrs: l}) {
				t.Errorf("a wrong attribute at %d", at)
			}
		}
	}
}

// P11.2
func TestTreesOfModifiesAndAdds(t *testing.T) {
	add, replace, none := attr("a", "x"), api.Change{Kind: 2, Attr: attr("a")}, attr("a")
	some := list(text("a"), inner(0x31, text("x")))
	empty := list(text("a"), inner(0x31))
	for count := range 9 {
		for _, last := range []api.Node{some, empty, list(leaf(10, "\x00"), some), list(leaf(10, "\x02"), empty), list(leaf(10, "\x00"), empty), list(leaf(10, "\x03"), some), {}, text("a")} {
			for _, first := range []api.Node{some, list(leaf(10, "\x02"), empty)} {
				l := list(append(slices.Repeat([]api.Node{first}, count), last)...)
				treeIs(t, inner(0x66, text("o=x"), l))
				treeIs(t, inner(0x68, text("o=x"), l))
			}
		}
	}
	for _, count := range []int{1, 6, 7, 1 << 17} {
		want := count < 7
		n, _ := part.Change(replace)
		if treeIs(t, inner(0x66, text(""), list(slices.Repeat([]api.Node{n}, count)...))) != want {
			t.Errorf("%d changes", count)
		}
		n, _ = part.Attr(add, 1)
		if treeIs(t, inner(0x68, text(""), list(slices.Repeat([]api.Node{n}, count)...))) != want {
			t.Errorf("%d attributes", count)
		}
		n, _ = part.Attr(none, 0)
		if treeIs(t, inner(0x68, text(""), list(slices.Repeat([]api.Node{n}, count)...))) {
			t.Errorf("%d attributes of no values", count)
		}
	}
}

// P11.1, P11.2, P11.3
func TestMoves(t *testing.T) {
	rdns := map[string]bool{
		"cn=b": true, "o=": true, "cn=b+o=c+l=d": true, `cn=a\,b`: true, "1.2=x": true, "cn=" + strings.Repeat(`\41`, 60): true,
		"": false, "cn": false, "cn=b,o=x": false, "cn=b,": false, ",": false, "a=1+b=2+c=3+d=4": false, " cn=b": false, "cn=b;o=x": false, "o=" + letters(61): false, letters(1 << 20): false,
		"o=" + letters(60) + "+o=" + letters(60) + "+" + letters(13) + "=" + letters(60): true,  // 200 bytes
		"o=" + letters(60) + "+o=" + letters(60) + "+" + letters(14) + "=" + letters(60): false, // 201
	}
	for rdn, right := range rdns {
		for superior, rightToo := range dns() {
			for i := range 4 {
				move := api.Move{Rdn: rdn, Superior: superior, DeleteOld: i&1 > 0, Has: i&2 > 0}
				want := right && rightToo && (move.Has || superior == "")
				if msgIs(t, api.Msg{Op: 12, Dn: "o=x", Move: move}) != want {
					t.Errorf("%s is not %v", brief(move), want)
				}
			}
			if treeIs(t, inner(0x6c, text("o=x"), text(rdn), leaf(1, "\x00"), leaf(0x80, superior))) != (right && rightToo) {
				t.Errorf("%.60q to %.60q", rdn, superior)
			}
		}
		if treeIs(t, inner(0x6c, text("o=x"), text(rdn), leaf(1, "\x00"))) != right {
			t.Errorf("to %.60q", rdn)
		}
	}
}

// P11.2: any one byte but 00 stands for ff.
func TestBytesOfBooleans(t *testing.T) {
	search := func(s string) api.Node {
		n, _ := plain(api.Msg{Op: 3, Search: api.Search{Filter: present("a")}})
		n.Kids[5].Data = s
		return n
	}
	move := func(s string) api.Node {
		return inner(0x6c, text(""), text("o=x"), leaf(1, s))
	}
	for b := range 256 {
		one := string([]byte{byte(b)})
		m, e := req.Read(search(one))
		if !treeIs(t, search(one)) || m.Search.TypesOnly != (b > 0) || e != api.OK {
			t.Errorf("byte %x of a search: %s, %d", b, brief(m), e)
		}
		m, e = req.Read(move(one))
		if !treeIs(t, move(one)) || m.Move.DeleteOld != (b > 0) || e != api.OK {
			t.Errorf("byte %x of a move: %s, %d", b, brief(m), e)
		}
		for _, s := range []string{"", one + one, "\x00" + one, one + "\x00", "\xff" + one, one + "\xff"} {
			if treeIs(t, search(s)) || treeIs(t, move(s)) {
				t.Errorf("bytes %x", s)
			}
		}
	}
}

// P11.1, P11.2, P11.3
func TestCompares(t *testing.T) {
	right := 0
	for _, name := range names() {
		for _, value := range append(sizes(0, 1, 200, 201, 1<<20), "\x00\xff", "*") {
			if msgIs(t, api.Msg{Op: 14, Attrs: []api.Attr{attr(name, value)}}) {
				right++
			}
			treeIs(t, inner(0x6e, text(""), texts(name, value)))
		}
	}
	if right != 5*5 {
		t.Errorf("%d are right", right)
	}
	one := attr("a", "x")
	for i, l := range [][]api.Attr{nil, {}, {one, one}, {one, {}}, {{}, one}, {attr("a")}, {attr("a", "x", "y")}, {{}}, make([]api.Attr, 1<<18)} {
		if msgIs(t, api.Msg{Op: 14, Attrs: l}) {
			t.Errorf("attributes %d", i)
		}
	}
	for i, n := range []api.Node{list(), texts("a"), texts("a", "x", "y"), list(text("a"), inner(0x31, text("x"))), list(list(text("a"), text("x"))), text("a"), {Tag: 0x30, Data: "x", Kids: texts("a", "x").Kids}, inner(0x31, text("a"), text("x"))} {
		if treeIs(t, inner(0x6e, text(""), n)) {
			t.Errorf("tree %d", i)
		}
	}
}

// P11.1, P11.2, P11.3
func TestExtendeds(t *testing.T) {
	right := 0
	for _, oid := range []string{"1.2", "0.0", "2.5.4.3", "1." + strings.Repeat("1", 18), "", "cn", "1", "1." + strings.Repeat("1", 19), "1.02", "1.2;x", "1.2\x00", "1..2"} {
		for _, value := range append(sizes(0, 1, 199, 200, 201, 1<<20), "\x00", "\xff\xfe") {
			for _, has := range []bool{false, true} {
				if msgIs(t, api.Msg{Op: 23, Ext: api.Ext{Oid: oid, Value: value, Has: has}}) {
					right++
				}
			}
			treeIs(t, inner(0x77, leaf(0x80, oid)))
			treeIs(t, inner(0x77, leaf(0x80, oid), leaf(0x81, value)))
			treeIs(t, inner(0x77, leaf(0x80, oid), leaf(0x80, value)))
		}
	}
	if right != 4*(6+1) {
		t.Errorf("%d are right", right)
	}
}

// pieces are trees that stand in requests' trees, or might.
func pieces() []api.Node {
	some := list(text("a"), inner(0x31, text("x")))
	return []api.Node{
		text("o=x"), text("a"), text(""), leaf(1, "\xff"), leaf(1, "\x07"), leaf(2, "\x03"), leaf(10, "\x00"), leaf(0x80, ""), leaf(0x80, "1.2"), leaf(0x81, "x"), leaf(0x87, "a"),
		list(), texts("a", "x"), texts("a"), list(some), list(list(leaf(10, "\x00"), some)), inner(0xa3, text("X")), inner(0xa3, text("X"), text("")), inner(0xa3),
	}
}

// lists yields all lists of some trees, up to so many.
func lists(most int, yield func([]api.Node)) {
	level := [][]api.Node{nil}
	for range most + 1 {
		var next [][]api.Node
		for _, l := range level {
			yield(l)
			for _, n := range pieces() {
				next = append(next, append(slices.Clip(l), n))
			}
		}
		level = next
	}
}

// P11.2: every list of up to three pieces, in each tree that has others in it; of four, in the one that may have four, beside a search.
func TestListsOfPieces(t *testing.T) {
	read := map[int]int{}
	lists(4, func(l []api.Node) {
		for _, tag := range tags {
			if tag&0x20 > 0 && (len(l) < 4 || tag == 0x6c) && treeIs(t, inner(tag, l...)) {
				read[tag]++
			}
		}
	})
	want := map[int]int{
		0x60: 2 * (2 + 2),   // two names; two passwords, and two mechanisms
		0x66: 2 * 1,         // one change
		0x68: 2 * 1,         // one attribute
		0x6c: 2 * 1 * 2 * 2, // two names, one part, two bytes that say yes, with and without an empty Superior
		0x6e: 2 * 1,         // one value
		0x77: 1 * 2,         // one OID, with and without a value
	}
	if !reflect.DeepEqual(read, want) {
		t.Errorf("%v are read; want %v", read, want)
	}
}

// P11.2: every tag, of trees that differ in it alone.
func TestEveryTag(t *testing.T) {
	for digits, m := range examples() {
		n, _ := plain(m)
		want := 1
		if m.Op == 2 || m.Op == 10 { // what is empty is OpUnbind's, and OpDelete's; the bytes of `o=x` are a number's too
			want = 2
		}
		all := []int{math.MinInt, math.MaxInt, n.Tag + 1<<32, n.Tag - 1<<32}
		for tag := -300; tag < 600; tag++ {
			all = append(all, tag)
		}
		read := 0
		for _, tag := range all {
			if treeIs(t, api.Node{Tag: tag, Data: n.Data, Kids: n.Kids}) {
				read++
			}
		}
		if read != want {
			t.Errorf("%s is read of %d tags", digits, read)
		}
	}
}

// changesHere yields a tree with itself changed, or its list of others, in each of some ways.
func changesHere(n api.Node, yield func(api.Node)) {
	for _, tag := range append([]int{n.Tag + 1, n.Tag ^ 0x20, n.Tag ^ 0x80, n.Tag + 256, -n.Tag, 0, 1, 2, 4, 10, 0x30, 0x31, 0x80, 0x81, 0xa3}, tags...) {
		if tag != n.Tag {
			yield(api.Node{Tag: tag, Data: n.Data, Kids: n.Kids})
		}
	}
	for _, s := range []string{n.Data + "a", "a" + n.Data, n.Data + "\x00", "\x00" + n.Data, n.Data + "\xff", "", "\x01", "\x02", "\x03", "x", "o=x"} {
		yield(api.Node{Tag: n.Tag, Data: s, Kids: n.Kids})
	}
	for at := range len(n.Kids) + 1 {
		for _, one := range append(pieces(), api.Node{}) {
			yield(api.Node{Tag: n.Tag, Data: n.Data, Kids: slices.Insert(slices.Clone(n.Kids), at, one)})
		}
	}
	for at := range n.Kids {
		yield(api.Node{Tag: n.Tag, Data: n.Data, Kids: slices.Delete(slices.Clone(n.Kids), at, at+1)})
	}
}

// changes yields a tree with one place of it changed, for each place in it.
func changes(n api.Node, yield func(api.Node)) {
	changesHere(n, yield)
	for at, one := range n.Kids {
		changes(one, func(other api.Node) {
			all := slices.Clone(n.Kids)
			all[at] = other
			yield(api.Node{Tag: n.Tag, Data: n.Data, Kids: all})
		})
	}
}

// P11.2: whatever is changed at one place of a tree is told, or refused.
func TestEveryChangeOfOnePlace(t *testing.T) {
	for _, m := range examples() {
		n, _ := plain(m)
		changes(n, func(n api.Node) { treeIs(t, n) })
	}
}

// P11.2: a tree has data, or others in it, as its tag says.
func TestDataBesideTrees(t *testing.T) {
	kid := inner(0)
	for digits, m := range examples() {
		n, _ := plain(m)
		beside(n, kid, func(n api.Node) {
			if treeIs(t, n) {
				t.Errorf("%s is read with both", digits)
			}
		})
	}
}

// beside yields a tree with what its tag forbids in it, for each tree in it.
func beside(n, kid api.Node, yield func(api.Node)) {
	if n.Tag&0x20 > 0 {
		yield(api.Node{Tag: n.Tag, Data: "x", Kids: n.Kids})
	} else {
		yield(api.Node{Tag: n.Tag, Data: n.Data, Kids: []api.Node{kid}})
	}
	for at, one := range n.Kids {
		beside(one, kid, func(other api.Node) {
			all := slices.Clone(n.Kids)
			all[at] = other
			yield(api.Node{Tag: n.Tag, Data: n.Data, Kids: all})
		})
	}
}

// searchWith is a search's tree, but for the trees behind TypesOnly.
func searchWith(more ...api.Node) api.Node {
	n := inner(0x63, text(""), leaf(10, "\x00"), leaf(10, "\x00"), leaf(2, "\x00"), leaf(2, "\x00"), leaf(1, "\x00"))
	n.Kids = append(n.Kids, more...)
	return n
}

// isRefused holds what is read from a tree that may be too great to be told.
func isRefused(t *testing.T, n api.Node) {
	t.Helper()
	if m, e := req.Read(n); !reflect.DeepEqual(m, api.Msg{}) || e != api.ErrReq {
		t.Errorf("a tree with the tag %x: %s, %d", n.Tag, brief(m), e)
	}
}

// P11.2: a list of trees that holds itself is left off.
func TestListsThatHoldThemselves(t *testing.T) {
	for _, inside := range append(tags, 0x30, 0x31, 4, 0x80, 0xa0, 0xa1, 0xa2, 0xa3) {
		l := make([]api.Node, 8)
		for i := range l {
			l[i] = api.Node{Tag: inside, Kids: l}
		}
		isRefused(t, searchWith(l[0], list()))
		isRefused(t, searchWith(leaf(0x87, "a"), l[0]))
		isRefused(t, searchWith(leaf(0x87, "a"), list(l...)))
		for _, tag := range tags {
			isRefused(t, inner(tag, l...))
			isRefused(t, inner(tag, text(""), l[0]))
			isRefused(t, inner(tag, text(""), list(l...)))
			isRefused(t, inner(tag, leaf(2, "\x03"), text(""), l[0]))
			isRefused(t, inner(tag, text(""), text("o=x"), leaf(1, "\x00"), l[0]))
			isRefused(t, inner(tag, leaf(0x80, "1.2"), l[0]))
		}
	}
}

// P11.2
func TestLongLists(t *testing.T) {
	many := slices.Repeat([]api.Node{text("")}, 1<<18)
	isRefused(t, searchWith(leaf(0x87, "a"), list(many...)))
	for _, tag := range append(tags, 0x30) {
		isRefused(t, inner(tag, many...))
		isRefused(t, inner(tag, text(""), list(many...)))
		isRefused(t, inner(tag, leaf(2, "\x03"), text(""), inner(0xa3, many...)))
	}
}

// P11.1: a filter that holds itself is left off.
func TestFiltersThatHoldThemselves(t *testing.T) {
	for kind := range 3 {
		l := make([]api.Filter, 8)
		for i := range l {
			l[i] = api.Filter{Kind: kind, L: l}
		}
		for _, op := range ops {
			m := api.Msg{Op: op, Search: api.Search{Filter: l[0]}}
			if n, e := req.Tree(m); req.Right(m) || !reflect.DeepEqual(n, api.Node{}) || e != api.ErrReq {
				t.Error(op, e)
			}
		}
	}
}

// maker makes messages, most of them right, and changes trees.
type maker struct{ *rand.Rand }

func (m maker) text(most int) string {
	s := make([]byte, m.Intn(most+1))
	for i := range s {
		s[i] = byte(m.Intn(256))
	}
	return string(s)
}

// some is one of a list, the first ones more often.
func some[T any](m maker, l ...T) T { return l[m.Intn(m.Intn(len(l))+1)] }

func (m maker) name(parts int) string {
	if m.Intn(40) == 0 {
		return m.text(4)
	}
	var d []api.Rdn
	for range parts {
		d = append(d, api.Rdn{L: []api.Ava{{Type: some(m, "cn", "1.2"), Value: m.text(19)}}})
	}
	s, _ := dn.Print(d)
	return s
}

func (m maker) attrs(most int) []api.Attr {
	var l []api.Attr
	for range m.Intn(most) + 1 {
		a := attr(some(m, "a", "cn;lang-de", "2.5.4.3;x;y", letters(20), "b", "a;", ""))
		for range m.Intn(7) + 1 {
			a.Values = append(a.Values, m.text(some(m, 10, 200, 201)))
		}
		l = append(l, a)
	}
	return l
}

func (m maker) yes() bool { return m.Intn(2) == 0 }

func (m maker) value(has bool) string {
	if has || m.Intn(30) == 0 {
		return m.text(201)
	}
	return ""
}

func (m maker) msg() api.Msg {
	all := api.Msg{Op: ops[m.Intn(len(ops))], Dn: m.name(m.Intn(3))}
	all.Attrs = m.attrs(7)
	if m.Intn(3) > 0 {
		all.Attrs = []api.Attr{attr(some(m, "a", "cn;lang-de", "2.5.4.3;x;y", letters(20), "b", "a;", ""), m.text(201))}
	}
	for _, a := range m.attrs(7) {
		a.Values = a.Values[:m.Intn(len(a.Values)+1)]
		all.Changes = append(all.Changes, api.Change{Kind: some(m, 2, 1, 0, 3, -1), Attr: a})
	}
	all.Search = api.Search{Scope: m.Intn(3), Deref: m.Intn(4), Size: some(m, 0, 1, 128, 1<<31-1, 1<<31), Time: some(m, 0, 255, 65535, -1), TypesOnly: m.yes(), Filter: parse(some(m, "(a=*)", "(&(a=1)(!(b=x*y)))", "(|(a>=b)(a~=\\ff))"))}
	for range m.Intn(8) {
		all.Search.Names = append(all.Search.Names, some(m, "*", "a", "cn;x", "2.5.4.3", "a b"))
	}
	has := m.yes()
	all.Move = api.Move{Rdn: m.name(some(m, 1, 1, 1, 2, 0)), DeleteOld: m.yes(), Has: has}
	if has {
		all.Move.Superior = m.name(m.Intn(3))
	}
	all.Bind = api.Bind{Simple: true, Auth: m.text(201)}
	if m.yes() {
		all.Bind = api.Bind{Mech: some(m, "X", "SCRAM-SHA-1", "A_9", "a"), Auth: m.value(has), Has: has}
	}
	all.Ext = api.Ext{Oid: some(m, "1.2", "2.5.4.3", "cn"), Value: m.value(has), Has: has}
	all.Target = some(m, 0, 1, 127, 128, 1<<31-1, 1<<31, -1)
	return all
}

// change changes one of a tree's trees, if it has some, or itself.
func (m maker) change(n api.Node) api.Node {
	if len(n.Kids) > 0 && m.Intn(4) > 0 {
		n.Kids = slices.Clone(n.Kids)
		at := m.Intn(len(n.Kids))
		n.Kids[at] = m.change(n.Kids[at])
		return n
	}
	all := []api.Node{}
	changesHere(n, func(n api.Node) { all = append(all, n) })
	return all[m.Intn(len(all))]
}

// P11.1, P11.2, P11.3
func TestAnyMessages(t *testing.T) {
	m := maker{rand.New(rand.NewSource(11))}
	right := map[int]int{}
	for range 20000 {
		all := m.msg()
		if m.Intn(50) > 0 {
			all = bare(all)
		}
		if msgIs(t, all) {
			right[all.Op]++
		}
		n, _ := plain(all)
		treeIs(t, n)
		if m.Intn(10) == 0 {
			treeIs(t, m.change(n))
		}
	}
	for _, op := range ops {
		if right[op] < 200 {
			t.Errorf("just %d of the operation %d are right", right[op], op)
		}
	}
}

// spoil writes into a thing's lists, and their spare room.
func spoil(v reflect.Value) {
	switch v.Kind() {
	case reflect.Slice:
		for i := range v.Len() {
			spoil(v.Index(i))
		}
		v = v.Slice(0, v.Cap())
		for i := range v.Len() {
			v.Index(i).SetZero()
		}
	case reflect.Struct:
		for i := range v.NumField() {
			spoil(v.Field(i))
		}
	}
}

// shared tells whether lists of a thing share memory, spare room too; seen are those that were gone through so far, which are kept, so that nothing new may stand where they stood.
func shared(v reflect.Value, seen map[uintptr]reflect.Value) bool {
	found := false
	switch v.Kind() {
	case reflect.Slice:
		for i := range v.Len() {
			found = shared(v.Index(i), seen) || found
		}
		step := max(v.Type().Elem().Size(), 1)
		kept := v.Slice(0, v.Cap()) // also when what v stands in is spoilt
		for i := range v.Cap() {
			at := v.Pointer() + uintptr(i)*step
			_, known := seen[at]
			found = found || known
			seen[at] = kept
		}
	case reflect.Struct:
		for i := range v.NumField() {
			found = shared(v.Field(i), seen) || found
		}
	}
	return found
}

// R3: what is answered is new memory, no two lists of it share any.
func TestAnswersShareNothing(t *testing.T) {
	for digits, m := range examples() {
		want, _ := plain(m)
		seen := map[uintptr]reflect.Value{}
		shared(reflect.ValueOf(m), seen)
		shared(reflect.ValueOf(want), seen)
		for range 2 {
			n, _ := req.Tree(m)
			again, _ := req.Read(want)
			if shared(reflect.ValueOf(n), seen) || shared(reflect.ValueOf(again), seen) {
				t.Errorf("%s: lists share", digits)
			}
			spoil(reflect.ValueOf(&n).Elem())
			spoil(reflect.ValueOf(&again).Elem())
		}
		if tree, _ := plain(m); !tlv.Same(tree, want) || !msgIs(t, m) || !treeIs(t, want) {
			t.Errorf("%s: something is changed", digits)
		}
	}
}

// roomy is a copy of a thing, with spare room behind each list, which is marked.
func roomy(v reflect.Value, mark func(reflect.Value)) reflect.Value {
	made := reflect.New(v.Type()).Elem()
	switch v.Kind() {
	case reflect.Slice:
		all := reflect.MakeSlice(v.Type(), v.Len()+2, v.Len()+2)
		for i := range v.Len() {
			all.Index(i).Set(roomy(v.Index(i), mark))
		}
		mark(all.Slice(v.Len(), v.Len()+2))
		made.Set(all.Slice(0, v.Len()))
	case reflect.Struct:
		for i := range v.NumField() {
			made.Field(i).Set(roomy(v.Field(i), mark))
		}
	default:
		made.Set(v)
	}
	return made
}

// R3: what is handed in is not written into, nor its spare room.
func TestArgumentsStay(t *testing.T) {
	for digits, m := range examples() {
		var rooms []reflect.Value
		mark := func(v reflect.Value) { rooms = append(rooms, v) }
		all := roomy(reflect.ValueOf(m), mark).Interface().(api.Msg)
		tree, _ := plain(m)
		n := roomy(reflect.ValueOf(tree), mark).Interface().(api.Node)
		if !msgIs(t, all) || !treeIs(t, n) || !sameMsg(all, m) || !tlv.Same(n, tree) {
			t.Errorf("%s: something is changed", digits)
		}
		for _, v := range rooms {
			if !v.Index(0).IsZero() || !v.Index(1).IsZero() {
				t.Errorf("%s: spare room is changed", digits)
			}
		}
	}
}

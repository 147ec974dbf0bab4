package msg_test

import (
	"bytes"
	"encoding/binary"
	"fmt"
	"math"
	"math/rand"
	"slices"
	"strings"
	"testing"

	"choragus/api"
	"choragus/body"
	"choragus/cmd"
	"choragus/msg"
	"choragus/view"
)

var (
	none = api.Pid{}
	cal  = api.Pid{Id: 0, Inc: 1}
	ann  = api.Pid{Id: 1, Inc: 1}
	bob  = api.Pid{Id: 2, Inc: 7}
	dan  = api.Pid{Id: 15, Inc: math.MaxUint32}
)

// row answers n bytes, no two neighbours of which are the same.
func row(n int) []byte {
	b := make([]byte, n)
	for at := range b {
		b[at] = byte(at*37 + 1)
	}
	return b
}

// alone answers the view of one member.
func alone(id uint64, p api.Pid) api.View {
	return api.View{Id: id, Members: []api.Pid{p}, Leaves: [][]api.Pid{{p}}, Leaders: []api.Pid{p}}
}

// three answers a view of three members in two leaves, two of whom lead.
func three() api.View {
	return api.View{Id: 300, Members: []api.Pid{ann, dan, cal}, Leaves: [][]api.Pid{{ann, cal}, {dan}}, Leaders: []api.Pid{ann, dan}}
}

// great answers the view with as many members as any view has, two a leaf, all of whom lead.
func great() api.View {
	v := api.View{Id: api.Ceiling}
	for id := range uint16(api.MaxProcs) {
		v.Members = append(v.Members, api.Pid{Id: id, Inc: math.MaxUint32})
	}
	for at := 0; at < len(v.Members); at += 2 {
		v.Leaves = append(v.Leaves, slices.Clone(v.Members[at:at+2]))
	}
	v.Leaders = slices.Clone(v.Members)
	return v
}

// nop, send and change answer commands.
func nop() api.Cmd { return api.Cmd{Kind: api.CmdNop} }

func send(data []byte) api.Cmd {
	return api.Cmd{Kind: api.CmdSend, From: bob, Num: 2, View: 3, Data: data}
}

func change(v api.View) api.Cmd { return api.Cmd{Kind: api.CmdView, V: v} }

// The kinds' words and fields, as the chapter's table tells them.
var (
	words = []string{"", "submit", "chosen", "need", "prepare", "promise", "accept", "accepted", "nack", "flush", "flushed", "join", "welcome", "leave", "expel"}
	table = []string{"", "Who View Num Hops Bytes", "Slot Hops C", "Slot", "Slot B", "Slot B Has", "Slot B C", "Slot B", "Slot B", "View Hops", "Who View Num Hops", "Who Hops", "Slot V Bytes", "Who Hops", "View"}
	names = []string{"Who", "View", "Slot", "Num", "Hops", "B", "A", "Has", "C", "V", "Bytes"}
)

// fieldsOf answers the names of the fields that m has, in their order; of a kind that is none, none.
func fieldsOf(m api.Msg) []string {
	if m.Kind < 1 || m.Kind > 14 {
		return nil
	}
	l := strings.Fields(table[m.Kind])
	if m.Kind == 5 && m.Has {
		l = append(l, "A", "C")
	}
	return l
}

// isZeroView tells whether a view is a zero one; nil and no elements are both nothing.
func isZeroView(v api.View) bool {
	return v.Id == 0 && len(v.Members)+len(v.Leaves)+len(v.Leaders) == 0
}

// isZeroCmd tells whether a command is a zero one.
func isZeroCmd(c api.Cmd) bool {
	return c.Kind == 0 && c.From == none && c.Num == 0 && c.View == 0 && len(c.Data) == 0 && isZeroView(c.V)
}

// isZeroField tells whether a field of m is zero.
func isZeroField(m api.Msg, name string) bool {
	return map[string]bool{
		"Who": m.Who == none, "View": m.View == 0, "Slot": m.Slot == 0, "Num": m.Num == 0, "Hops": m.Hops == 0,
		"B": m.B == api.Ballot{}, "A": m.A == api.Ballot{}, "Has": !m.Has, "C": isZeroCmd(m.C), "V": isZeroView(m.V), "Bytes": len(m.Bytes) == 0,
	}[name]
}

// isZero tells whether m is a zero message.
func isZero(m api.Msg) bool {
	return m.Kind == 0 && !slices.ContainsFunc(names, func(name string) bool { return !isZeroField(m, name) })
}

// mayPid tells whether a process may be, without package pid.
func mayPid(p api.Pid) bool { return p.Id < 16 && p.Inc > 0 }

// mayField tells whether a field may be so in a message that has it.
func mayField(m api.Msg, name string) bool {
	switch name {
	case "Who":
		return mayPid(m.Who)
	case "View":
		return m.View <= 1<<62
	case "Slot":
		return m.Slot <= 1<<62
	case "Num":
		return m.Num <= 1<<62
	case "Hops":
		return 0 <= m.Hops && m.Hops <= 4
	case "B":
		return mayPid(m.B.Who)
	case "A":
		return mayPid(m.A.Who)
	case "C":
		return cmd.Check(m.C) == api.OK
	case "V":
		return view.Check(m.V) == api.OK
	case "Bytes":
		return len(m.Bytes) <= 200
	}
	return true
}

// mayBe tells whether m may be, by a second reading of the chapter: field by field.
func mayBe(m api.Msg) bool {
	has := fieldsOf(m)
	for _, name := range names {
		if slices.Contains(has, name) && !mayField(m, name) || !slices.Contains(has, name) && !isZeroField(m, name) {
			return false
		}
	}
	return len(has) > 0
}

// A turn sets one field of a message.
type turn struct {
	field string
	set   func(m *api.Msg)
}

// turned answers m with the field that t sets.
func turned(m api.Msg, t turn) api.Msg {
	t.set(&m)
	return m
}

// fits answers turns to all that fields may be, the least and the greatest among them.
func fits() []turn {
	var all []turn
	add := func(field string, set func(m *api.Msg)) { all = append(all, turn{field, set}) }
	for _, n := range []uint64{0, 1, 127, 128, 1 << 32, api.Ceiling - 1, api.Ceiling} {
		add("View", func(m *api.Msg) { m.View = n })
		add("Slot", func(m *api.Msg) { m.Slot = n })
		add("Num", func(m *api.Msg) { m.Num = n })
	}
	for hops := range api.MaxHops + 1 {
		add("Hops", func(m *api.Msg) { m.Hops = hops })
	}
	for _, p := range []api.Pid{cal, ann, bob, dan, {Id: 15, Inc: 1}, {Id: 0, Inc: 1 << 31}} {
		add("Who", func(m *api.Msg) { m.Who = p })
		for _, round := range []uint32{0, 1, 300, math.MaxUint32} {
			add("B", func(m *api.Msg) { m.B = api.Ballot{Round: round, Who: p} })
			add("A", func(m *api.Msg) { m.A = api.Ballot{Round: round, Who: p} })
		}
	}
	for _, c := range []api.Cmd{nop(), {Kind: api.CmdNop, Data: []byte{}}, send(nil), send(row(1)), send(row(api.MaxData)), change(alone(1, ann)), change(three()), change(great())} {
		add("C", func(m *api.Msg) { m.C = c })
	}
	for _, v := range []api.View{alone(1, ann), alone(api.Ceiling, dan), three(), great()} {
		add("V", func(m *api.Msg) { m.V = v })
	}
	for _, b := range [][]byte{nil, {}, {0}, {255}, row(127), row(128), row(api.MaxData - 1), row(api.MaxData)} {
		add("Bytes", func(m *api.Msg) { m.Bytes = b })
	}
	return all
}

// turnedView answers a view of three to which something is done.
func turnedView(set func(v *api.View)) api.View {
	v := three()
	set(&v)
	return v
}

// faults answers turns to what fields may not be, wherever they stand.
func faults() []turn {
	var all []turn
	add := func(field string, set func(m *api.Msg)) { all = append(all, turn{field, set}) }
	for _, n := range []uint64{api.Ceiling + 1, api.Ceiling + 2, 1 << 63, 1<<63 + 1, math.MaxUint64} {
		add("View", func(m *api.Msg) { m.View = n })
		add("Slot", func(m *api.Msg) { m.Slot = n })
		add("Num", func(m *api.Msg) { m.Num = n })
	}
	for _, hops := range []int{-1, -2, -4, -255, api.MaxHops + 1, api.MaxHops + 2, 256, 256 + 1, 1 << 16, 1 << 32, math.MaxInt, math.MinInt, math.MinInt + 1} {
		add("Hops", func(m *api.Msg) { m.Hops = hops })
	}
	for _, p := range []api.Pid{none, {Id: 1}, {Id: 15}, {Id: 16, Inc: 1}, {Id: 16}, {Id: 256 + 1, Inc: 1}, {Id: math.MaxUint16, Inc: math.MaxUint32}} {
		add("Who", func(m *api.Msg) { m.Who = p })
		for _, round := range []uint32{0, 1, math.MaxUint32} {
			add("B", func(m *api.Msg) { m.B = api.Ballot{Round: round, Who: p} })
			add("A", func(m *api.Msg) { m.A = api.Ballot{Round: round, Who: p} })
		}
	}
	for _, c := range []api.Cmd{
		{}, {Kind: 4}, {Kind: -1}, {Kind: 1<<32 + 1}, {From: bob, Num: 2, View: 3}, {Kind: api.CmdSend}, {Kind: api.CmdSend, From: none, Num: 2, View: 3}, {Kind: api.CmdNop, Num: 1},
		send(row(api.MaxData + 1)), send(row(5000)), change(api.View{}), change(turnedView(func(v *api.View) { v.Id = 0 })), {Data: row(1)}, {V: three()},
	} {
		add("C", func(m *api.Msg) { m.C = c })
	}
	for _, v := range []api.View{
		{}, {Members: []api.Pid{}, Leaves: [][]api.Pid{}, Leaders: []api.Pid{}}, {Id: 1}, {Members: []api.Pid{ann}}, {Leaves: [][]api.Pid{nil}}, {Leaders: []api.Pid{ann}},
		turnedView(func(v *api.View) { v.Id = api.Ceiling + 1 }), turnedView(func(v *api.View) { v.Leaders = nil }), turnedView(func(v *api.View) { v.Members[1].Inc = 0 }),
	} {
		add("V", func(m *api.Msg) { m.V = v })
	}
	for _, n := range []int{api.MaxData + 1, api.MaxData + 2, 256, 256 + 1, api.MaxBody, 1 << 16, 1 << 20} {
		add("Bytes", func(m *api.Msg) { m.Bytes = make([]byte, n) })
	}
	return all
}

// bases answers a message of each kind, and one of those that have more if Has holds, in which all that it has is set.
func bases() []api.Msg {
	b, a := api.Ballot{Round: 300, Who: bob}, api.Ballot{Round: 9, Who: dan}
	return []api.Msg{
		{Kind: api.MsgSubmit, Who: ann, View: 3, Num: 300, Hops: 1, Bytes: []byte("hi")},
		{Kind: api.MsgChosen, Slot: 5, Hops: 4, C: send([]byte("a"))},
		{Kind: api.MsgNeed, Slot: 5},
		{Kind: api.MsgPrepare, Slot: 5, B: b},
		{Kind: api.MsgPromise, Slot: 5, B: b},
		{Kind: api.MsgPromise, Slot: 5, B: b, Has: true, A: a, C: change(three())},
		{Kind: api.MsgAccept, Slot: 5, B: b, C: nop()},
		{Kind: api.MsgAccepted, Slot: 5, B: b},
		{Kind: api.MsgNack, Slot: 5, B: b},
		{Kind: api.MsgFlush, View: 3, Hops: 2},
		{Kind: api.MsgFlushed, Who: dan, View: 3, Num: 4, Hops: 3},
		{Kind: api.MsgJoin, Who: cal, Hops: 1},
		{Kind: api.MsgWelcome, Slot: 5, V: three(), Bytes: []byte{0, 0xab}},
		{Kind: api.MsgLeave, Who: bob, Hops: 1},
		{Kind: api.MsgExpel, View: 3},
	}
}

// goods answers messages that may be, of each kind, with all that each of their fields may be.
func goods() []api.Msg {
	all := bases()
	for _, m := range bases() {
		least, greatest := m, m
		for _, f := range fits() {
			if !slices.Contains(fieldsOf(m), f.field) {
				continue
			}
			if one := turned(m, f); isZeroField(one, f.field) || isZeroField(least, f.field) {
				f.set(&least)
			}
			f.set(&greatest)
			all = append(all, turned(m, f))
		}
		all = append(all, least, greatest)
	}
	// What isn't there is zero, be it nil or without elements.
	for _, m := range bases() {
		if m.Kind != api.MsgSubmit && m.Kind != api.MsgWelcome {
			m.Bytes = []byte{}
		}
		if isZeroCmd(m.C) {
			m.C = api.Cmd{Data: []byte{}, V: api.View{Members: []api.Pid{}}}
		}
		if isZeroView(m.V) {
			m.V = api.View{Members: []api.Pid{}, Leaves: [][]api.Pid{}, Leaders: []api.Pid{}}
		}
		all = append(all, m)
	}
	return all
}

// a wrong is a message that may not be, and why.
type wrong struct {
	why string
	m   api.Msg
}

// noKinds are numbers of which no message's kind is one, some that are one if they are made narrow among them.
var noKinds = []int{0, 15, 16, 127, 128, 256 + 1, 256 + 14, 1<<16 + 3, 1<<32 + 1, 1<<32 + 14, -1, -2, -14, -255, math.MaxInt, math.MinInt, math.MinInt + 1}

// bads answers messages that may not be, each for one thing alone.
func bads() []wrong {
	all := []wrong{{"a zero one", api.Msg{}}}
	for _, m := range bases() {
		for _, kind := range noKinds {
			other := m
			other.Kind = kind
			all = append(all, wrong{"a kind that is none", other})
		}
		for _, f := range faults() {
			if slices.Contains(fieldsOf(m), f.field) {
				all = append(all, wrong{"of " + words[m.Kind] + ", " + f.field, turned(m, f)})
			}
		}
		for _, f := range slices.Concat(fits(), faults()) {
			if other := turned(m, f); !slices.Contains(fieldsOf(m), f.field) && !isZeroField(other, f.field) {
				all = append(all, wrong{"of " + words[m.Kind] + ", which has none, " + f.field, other})
			}
		}
		if m.Has {
			// As if it hadn't, it has an A and a C all the same.
			m.Has = false
			all = append(all, wrong{"an A and a C of what hasn't", m})
			m.C = api.Cmd{}
			all = append(all, wrong{"an A of what hasn't", m})
			m.A, m.C = api.Ballot{}, nop()
			all = append(all, wrong{"a C of what hasn't", m})
		} else {
			m.Has = true
			all = append(all, wrong{"of " + words[m.Kind] + ", Has", m})
			m.A.Who = ann
			all = append(all, wrong{"of " + words[m.Kind] + ", Has, and an A", m})
			m.A, m.C = api.Ballot{}, nop()
			all = append(all, wrong{"of " + words[m.Kind] + ", Has, and a C", m})
		}
	}
	for _, kind := range []int{1, 4, 6, 9, 12, 14} {
		m := bases()[5]
		m.Kind = kind
		all = append(all, wrong{"what a promise has, of another kind", m})
	}
	return all
}

// told answers a message's beginning, to be printed where a test fails.
func told(m api.Msg) string {
	s := fmt.Sprintf("%+v", m)
	return s[:min(len(s), 300)]
}

// pick answers one of some.
func pick[T any](source *rand.Rand, some []T) T { return some[source.Intn(len(some))] }

// anyMsg answers a message of any kind, with most of what it has, and little of what it hasn't.
func anyMsg(source *rand.Rand, good, bad []turn) api.Msg {
	m := api.Msg{Kind: source.Intn(17) - 1, Has: source.Intn(2) == 0}
	if source.Intn(8) > 0 && m.Kind != api.MsgPromise {
		m.Has = false
	}
	for range 3 {
		for _, name := range fieldsOf(m) {
			f := pick(source, good)
			for range 200 {
				if f.field == name {
					f.set(&m)
					break
				}
				f = pick(source, good)
			}
		}
	}
	for range source.Intn(4) - 1 {
		pick(source, bad).set(&m)
	}
	return m
}

// P10.1

func TestFieldsOfTheTests(t *testing.T) {
	kinds := map[int]bool{}
	for _, m := range bases() {
		kinds[m.Kind] = true
		for _, name := range fieldsOf(m) {
			if isZeroField(m, name) && name != "Has" {
				t.Fatalf("the test's own %s has no %s", words[m.Kind], name)
			}
		}
	}
	if len(kinds) != api.MsgExpel {
		t.Fatalf("%d kinds", len(kinds))
	}
}

func TestCheck(t *testing.T) {
	for _, m := range goods() {
		if got := msg.Check(m); got != api.OK || !mayBe(m) {
			t.Fatalf("Check(%s) = %d", told(m), got)
		}
	}
	for _, w := range bads() {
		if got := msg.Check(w.m); got != api.ErrArg || mayBe(w.m) {
			t.Errorf("%s: Check(%s) = %d", w.why, told(w.m), got)
		}
	}
}

func TestCheckOfAnyMessages(t *testing.T) {
	source := rand.New(rand.NewSource(10))
	good, bad := fits(), slices.Concat(fits(), faults())
	times := map[bool]int{}
	for range 30000 {
		m := anyMsg(source, good, bad)
		want := mayBe(m)
		if got := msg.Check(m); got != api.OK && got != api.ErrArg || (got == api.OK) != want {
			t.Fatalf("Check(%s) = %d", told(m), got)
		}
		times[want]++
	}
	if times[true] < 3000 || times[false] < 3000 {
		t.Fatalf("%d may be, %d may not: the test asks too little", times[true], times[false])
	}
}

// numbers answers the short forms of all, one behind the other.
func numbers(all ...uint64) []byte {
	var b []byte
	for _, n := range all {
		b = binary.AppendUvarint(b, n)
	}
	return b
}

// join answers all parts in new memory, one behind the other.
func join(parts ...[]byte) []byte { return slices.Concat(parts...) }

// cmdForm answers a command's form.
func cmdForm(c api.Cmd) []byte {
	w := &body.Writer{}
	cmd.Put(w, c)
	return w.Done()
}

// viewForm answers a view's form.
func viewForm(v api.View) []byte {
	w := &body.Writer{}
	view.Put(w, v)
	return w.Done()
}

// pidForm answers a process's form.
func pidForm(p api.Pid) []byte { return numbers(uint64(p.Id), uint64(p.Inc)) }

// fieldForm answers a field's form, made without package msg, be it one that may be or not.
func fieldForm(m api.Msg, name string) []byte {
	switch name {
	case "Who":
		return pidForm(m.Who)
	case "View":
		return numbers(m.View)
	case "Slot":
		return numbers(m.Slot)
	case "Num":
		return numbers(m.Num)
	case "Hops":
		return numbers(uint64(m.Hops))
	case "B":
		return join(numbers(uint64(m.B.Round)), pidForm(m.B.Who))
	case "A":
		return join(numbers(uint64(m.A.Round)), pidForm(m.A.Who))
	case "Has":
		if m.Has {
			return []byte{1}
		}
		return []byte{0}
	case "C":
		return cmdForm(m.C)
	case "V":
		return viewForm(m.V)
	}
	return join(numbers(uint64(len(m.Bytes))), m.Bytes)
}

// formOf answers m's form, made without package msg, be m one that may be or not.
func formOf(m api.Msg) []byte {
	form := numbers(uint64(m.Kind))
	for _, name := range fieldsOf(m) {
		form = join(form, fieldForm(m, name))
	}
	return form
}

func TestEncodeOfExamples(t *testing.T) {
	b, a := api.Ballot{Round: 300, Who: bob}, api.Ballot{Round: 0, Who: ann}
	for _, one := range []struct {
		m    api.Msg
		want []byte
	}{
		{api.Msg{Kind: api.MsgSubmit, Who: ann, View: 2, Num: 3, Hops: 4, Bytes: []byte("ab")}, []byte{1, 1, 1, 2, 3, 4, 2, 'a', 'b'}},
		{api.Msg{Kind: api.MsgSubmit, Who: dan, View: 300, Num: 0}, []byte{1, 15, 255, 255, 255, 255, 15, 0xac, 2, 0, 0, 0}},
		{api.Msg{Kind: api.MsgChosen, Slot: 5, Hops: 1, C: nop()}, []byte{2, 5, 1, 1}},
		{api.Msg{Kind: api.MsgChosen, Slot: 5, C: send([]byte("c"))}, []byte{2, 5, 0, 2, 2, 7, 2, 3, 1, 'c'}},
		{api.Msg{Kind: api.MsgNeed, Slot: 5}, []byte{3, 5}},
		{api.Msg{Kind: api.MsgNeed, Slot: api.Ceiling}, []byte{3, 128, 128, 128, 128, 128, 128, 128, 128, 64}},
		{api.Msg{Kind: api.MsgPrepare, Slot: 5, B: b}, []byte{4, 5, 0xac, 2, 2, 7}},
		{api.Msg{Kind: api.MsgPromise, Slot: 5, B: b}, []byte{5, 5, 0xac, 2, 2, 7, 0}},
		{api.Msg{Kind: api.MsgPromise, Slot: 5, B: b, Has: true, A: a, C: nop()}, []byte{5, 5, 0xac, 2, 2, 7, 1, 0, 1, 1, 1}},
		{api.Msg{Kind: api.MsgAccept, Slot: 5, B: a, C: change(alone(9, ann))}, []byte{6, 5, 0, 1, 1, 3, 9, 1, 1, 1, 1, 1, 0, 1, 0}},
		{api.Msg{Kind: api.MsgAccepted, Slot: 0, B: a}, []byte{7, 0, 0, 1, 1}},
		{api.Msg{Kind: api.MsgNack, Slot: 127, B: a}, []byte{8, 127, 0, 1, 1}},
		{api.Msg{Kind: api.MsgFlush, View: 6, Hops: 2}, []byte{9, 6, 2}},
		{api.Msg{Kind: api.MsgFlushed, Who: cal, View: 6, Num: 7, Hops: 3}, []byte{10, 0, 1, 6, 7, 3}},
		{api.Msg{Kind: api.MsgJoin, Who: bob, Hops: 1}, []byte{11, 2, 7, 1}},
		{api.Msg{Kind: api.MsgWelcome, Slot: 5, V: alone(9, ann), Bytes: []byte{8}}, []byte{12, 5, 9, 1, 1, 1, 1, 1, 0, 1, 0, 1, 8}},
		{api.Msg{Kind: api.MsgLeave, Who: bob}, []byte{13, 2, 7, 0}},
		{api.Msg{Kind: api.MsgExpel, View: 1}, []byte{14, 1}},
	} {
		if got, e := msg.Encode(one.m); e != api.OK || !bytes.Equal(got, one.want) {
			t.Errorf("Encode(%s) = % x, %d, not % x", told(one.m), got, e, one.want)
		}
		checkReads(t, one.want, one.m)
	}
}

func TestEncode(t *testing.T) {
	for _, m := range goods() {
		if got, e := msg.Encode(m); e != api.OK || !bytes.Equal(got, formOf(m)) {
			t.Fatalf("Encode(%s) = % x, %d, not % x", told(m), got, e, formOf(m))
		}
	}
	for _, w := range bads() {
		if got, e := msg.Encode(w.m); e != api.ErrArg || len(got) != 0 {
			t.Errorf("%s: Encode(%s) = % x, %d", w.why, told(w.m), got, e)
		}
	}
}

// alikeView tells whether two views are the same, held against each other without the program.
func alikeView(v, w api.View) bool {
	return v.Id == w.Id && slices.Equal(v.Members, w.Members) && slices.Equal(v.Leaders, w.Leaders) &&
		slices.EqualFunc(v.Leaves, w.Leaves, slices.Equal[[]api.Pid])
}

// alikeCmd tells whether two commands are the same, held against each other without the program.
func alikeCmd(a, b api.Cmd) bool {
	return a.Kind == b.Kind && a.From == b.From && a.Num == b.Num && a.View == b.View && string(a.Data) == string(b.Data) && alikeView(a.V, b.V)
}

// alike tells whether two messages are the same, held against each other without the program.
func alike(a, b api.Msg) bool {
	return a.Kind == b.Kind && a.Who == b.Who && a.View == b.View && a.Slot == b.Slot && a.Num == b.Num && a.Hops == b.Hops && a.B == b.B && a.A == b.A &&
		a.Has == b.Has && alikeCmd(a.C, b.C) && alikeView(a.V, b.V) && string(a.Bytes) == string(b.Bytes)
}

// checkReads asks whether m is read of a form, and whether it isn't with any byte behind.
func checkReads(t *testing.T, form []byte, m api.Msg) {
	t.Helper()
	if got, e := msg.Decode(form); e != api.OK || !alike(got, m) {
		t.Fatalf("Decode(% x) = %s, %d, not %s", form, told(got), e, told(m))
	}
	for _, behind := range [][]byte{{0}, {1}, {0x80}, {255, 255, 255}, form} {
		checkStops(t, "bytes are left", join(form, behind), api.ErrForm)
	}
}

// checkStops asks whether no message is read of b, and why.
func checkStops(t *testing.T, why string, b []byte, want api.Errno) {
	t.Helper()
	if got, e := msg.Decode(b); e != want || !isZero(got) {
		t.Fatalf("%s: Decode(% x) = %s, %d, not %d", why, b, told(got), e, want)
	}
}

func TestDecode(t *testing.T) {
	for _, m := range goods() {
		checkReads(t, formOf(m), m)
	}
}

func TestDecodeOfEachBeginning(t *testing.T) {
	for _, m := range append(bases(), api.Msg{Kind: api.MsgWelcome, Slot: api.Ceiling, V: great(), Bytes: row(api.MaxData)}, api.Msg{Kind: api.MsgSubmit, Who: dan, View: 300, Num: 1 << 40, Bytes: row(130)}) {
		form := formOf(m)
		for cut := range form {
			checkStops(t, "a beginning", form[:cut], api.ErrShort)
		}
	}
	checkStops(t, "nothing", nil, api.ErrShort)
	checkStops(t, "nothing", []byte{}, api.ErrShort)
}

func TestDecodeOfKinds(t *testing.T) {
	for _, m := range bases() {
		for _, behind := range [][]byte{nil, {0}, {1}, {0x80}, {0x80, 0}, formOf(m)[1:]} {
			checkStops(t, "no kind", join([]byte{0}, behind), api.ErrForm)
			for _, kind := range []uint64{15, 16, 127, 128, 256 + 1, 256 + 14, 1 << 16, 1<<32 + 3, 1 << 62, 1<<63 + 3, math.MaxUint64} {
				checkStops(t, "a kind that is too great", join(numbers(kind), behind), api.ErrLong)
			}
			checkStops(t, "a kind in no short form", join([]byte{0x80 | byte(m.Kind), 0}, behind), api.ErrForm)
		}
	}
	checkStops(t, "a kind in no short form", []byte{0x80, 0}, api.ErrForm)
}

// A broken is a field's form that stops a reader, and by what.
type broken struct {
	field string
	form  []byte
	want  api.Errno
}

// breaks answers forms of fields that stop a reader, wherever they stand.
func breaks() []broken {
	twisted := []byte{0x81, 0}
	var all []broken
	for _, name := range []string{"View", "Slot", "Num"} {
		for _, n := range []uint64{api.Ceiling + 1, api.Ceiling + 2, 1 << 63, 1<<63 + 1, math.MaxUint64} {
			all = append(all, broken{name, numbers(n), api.ErrLong})
		}
		all = append(all, broken{name, twisted, api.ErrForm}, broken{name, bytes.Repeat([]byte{255}, 10), api.ErrForm})
	}
	for _, n := range []uint64{api.MaxHops + 1, api.MaxHops + 2, 127, 256, 256 + 1, 1 << 32, 1 << 63, 1<<63 + 1, math.MaxUint64} {
		all = append(all, broken{"Hops", numbers(n), api.ErrLong})
	}
	all = append(all, broken{"Hops", twisted, api.ErrForm})
	for _, form := range [][]byte{numbers(1<<16, 1), numbers(1, 1<<32), numbers(math.MaxUint64, 1), join(twisted, []byte{1}), join([]byte{1}, twisted)} {
		all = append(all, broken{"Who", form, api.ErrForm})
		for _, name := range []string{"B", "A"} {
			all = append(all, broken{name, join([]byte{1}, form), api.ErrForm}, broken{name, join(numbers(1<<32), form), api.ErrLong})
		}
	}
	for _, name := range []string{"B", "A"} {
		all = append(all, broken{name, numbers(1<<32, 1, 1), api.ErrLong}, broken{name, numbers(math.MaxUint64, 1, 1), api.ErrLong}, broken{name, join(twisted, []byte{1, 1}), api.ErrForm})
	}
	for c := 2; c < 256; c++ {
		all = append(all, broken{"Has", []byte{byte(c)}, api.ErrForm})
	}
	for _, n := range []uint64{api.MaxData + 1, api.MaxData + 2, 255, 256, 1 << 16, 1 << 32, 1 << 63, math.MaxUint64} {
		all = append(all, broken{"Bytes", numbers(n), api.ErrLong}, broken{"Bytes", join(numbers(n), row(api.MaxData+1)), api.ErrLong})
	}
	all = append(all, broken{"Bytes", join(twisted, row(9)), api.ErrForm})
	for _, one := range []broken{
		{"C", []byte{0}, api.ErrForm}, {"C", []byte{4}, api.ErrLong}, {"C", numbers(1<<32 + 1), api.ErrLong}, {"C", twisted, api.ErrForm}, {"C", []byte{2, 2, 7, 0, 3, 0}, api.ErrForm},
		{"C", []byte{2, 2, 0, 2, 3, 0}, api.ErrForm}, {"C", join([]byte{2, 2, 7}, numbers(api.Ceiling+1, 3, 0)), api.ErrLong}, {"C", join([]byte{2, 2, 7, 2, 3}, numbers(api.MaxData+1), row(api.MaxData+1)), api.ErrLong},
		{"C", []byte{3, 9, 25}, api.ErrLong}, {"C", []byte{3, 0, 1, 1, 1, 1, 1, 0, 1, 0}, api.ErrForm},
		{"V", numbers(api.Ceiling + 1), api.ErrLong}, {"V", twisted, api.ErrForm}, {"V", []byte{9, 25}, api.ErrLong}, {"V", []byte{9, 1, 1, 1, 25}, api.ErrLong}, {"V", []byte{9, 1, 1, 1, 1, 1, 1}, api.ErrLong},
		{"V", []byte{0, 1, 1, 1, 1, 1, 0, 1, 0}, api.ErrForm}, {"V", []byte{9, 1, 1, 1, 0, 1, 0}, api.ErrForm}, {"V", []byte{9, 1, 1, 1, 1, 1, 0, 0}, api.ErrForm}, {"V", []byte{9, 1, 1, 0, 1, 1, 0, 1, 0}, api.ErrForm},
	} {
		all = append(all, one)
	}
	return all
}

// TestDecodeOfFieldsThatCantBeRead: the first thing that stops the reader is told, whatever is behind it, and be the fields ahead of it such as may not be.
func TestDecodeOfFieldsThatCantBeRead(t *testing.T) {
	asked := map[string]bool{}
	for _, m := range bases() {
		for _, one := range breaks() {
			ahead, nobody := numbers(uint64(m.Kind)), numbers(uint64(m.Kind))
			for at, name := range fieldsOf(m) {
				if name == one.field {
					asked[name] = true
					var tail []byte
					for _, next := range fieldsOf(m)[at+1:] {
						tail = join(tail, fieldForm(m, next))
					}
					for _, behind := range [][]byte{tail, {}, {1, 1, 1}, {0x81, 0}, {255, 255, 255}, row(300)} {
						// Each of the breaks is told at its last byte, or ahead of it, so that nothing need follow.
						checkStops(t, name, join(ahead, one.form, behind), one.want)
						checkStops(t, name+", behind what may not be", join(nobody, one.form, behind), one.want)
					}
				}
				ahead = join(ahead, fieldForm(m, name))
				if name == "Who" || name == "B" || name == "A" {
					nobody = join(nobody, fieldForm(api.Msg{}, name))
				} else {
					nobody = join(nobody, fieldForm(m, name))
				}
			}
		}
	}
	if len(asked) != len(names) {
		t.Fatalf("the test asks %v alone", asked)
	}
}

// TestDecodeOfTheFormOfAMessageThatMayNotBe: it is told behind the whole form.
func TestDecodeOfTheFormOfAMessageThatMayNotBe(t *testing.T) {
	n := 0
	for _, m := range bases() {
		for _, f := range faults() {
			if !slices.Contains(fieldsOf(m), f.field) || f.field != "Who" && f.field != "B" && f.field != "A" {
				continue
			}
			form := formOf(turned(m, f))
			checkStops(t, f.field, form, api.ErrForm)
			checkStops(t, f.field+", and bytes are left", join(form, []byte{0}), api.ErrForm)
			checkStops(t, f.field+", and all isn't whole", form[:len(form)-1], api.ErrShort)
			n++
		}
	}
	if n < 100 {
		t.Fatalf("the test asks %d alone", n)
	}
}

// A model reads a form as the chapters tell it, by places in a row; commands and views it reads by their layers.
type model struct {
	b  []byte
	at int
	e  api.Errno
}

// short answers the number at a place, and the place behind it.
func (m *model) short(at int) (n uint64, behind int, e api.Errno) {
	n, used := binary.Uvarint(m.b[at:])
	switch {
	case used == 0 && len(m.b)-at < 10:
		return 0, at, api.ErrShort
	case used <= 0 || used > 1 && m.b[at+used-1] == 0:
		return 0, at, api.ErrForm
	}
	return n, at + used, api.OK
}

// num reads a number up to most.
func (m *model) num(most uint64) uint64 {
	if m.e != api.OK {
		return 0
	}
	n, behind, e := m.short(m.at)
	if e == api.OK && n > most {
		e = api.ErrLong
	}
	if e != api.OK {
		m.e = e
		return 0
	}
	m.at = behind
	return n
}

// pid reads a process.
func (m *model) pid() api.Pid {
	id, inc := m.num(math.MaxUint64), m.num(math.MaxUint64)
	if m.e == api.OK && (id > math.MaxUint16 || inc > math.MaxUint32) {
		m.e = api.ErrForm
	}
	return api.Pid{Id: uint16(id), Inc: uint32(inc)}
}

// truth reads a truth.
func (m *model) truth() bool {
	if m.e == api.OK && m.at == len(m.b) {
		m.e = api.ErrShort
	}
	if m.e == api.OK && m.b[m.at] > 1 {
		m.e = api.ErrForm
	}
	if m.e != api.OK {
		return false
	}
	m.at++
	return m.b[m.at-1] == 1
}

// data reads bytes.
func (m *model) data() []byte {
	n := int(m.num(200))
	if m.e == api.OK && m.at+n > len(m.b) {
		m.e = api.ErrShort
	}
	if m.e != api.OK {
		return nil
	}
	m.at += n
	return m.b[m.at-n : m.at]
}

// by reads what a layer below reads.
func (m *model) by(get func(r *body.Reader)) {
	if m.e == api.OK {
		r := body.Read(m.b[m.at:])
		get(r)
		m.at, m.e = len(m.b)-r.Left(), r.Err()
	}
}

// field reads a field.
func (m *model) field(out *api.Msg, name string) {
	switch name {
	case "Who":
		out.Who = m.pid()
	case "View":
		out.View = m.num(1 << 62)
	case "Slot":
		out.Slot = m.num(1 << 62)
	case "Num":
		out.Num = m.num(1 << 62)
	case "Hops":
		out.Hops = int(m.num(4))
	case "B":
		out.B.Round = uint32(m.num(math.MaxUint32))
		out.B.Who = m.pid()
	case "A":
		out.A.Round = uint32(m.num(math.MaxUint32))
		out.A.Who = m.pid()
	case "Has":
		out.Has = m.truth()
	case "C":
		m.by(func(r *body.Reader) { out.C = cmd.Get(r) })
	case "V":
		m.by(func(r *body.Reader) { out.V = view.Get(r) })
	case "Bytes":
		out.Bytes = m.data()
	}
}

// second answers what a second reading of the chapter reads of b.
func second(b []byte) (api.Msg, api.Errno) {
	m := &model{b: b}
	out := api.Msg{Kind: int(m.num(14))}
	for _, name := range strings.Fields(table[out.Kind]) {
		m.field(&out, name)
	}
	if out.Kind == 5 && out.Has {
		m.field(&out, "A")
		m.field(&out, "C")
	}
	if m.e == api.OK && (m.at < len(b) || !mayBe(out)) {
		m.e = api.ErrForm
	}
	if m.e != api.OK {
		return api.Msg{}, m.e
	}
	return out, api.OK
}

// against asks whether Decode reads of b what the second reading does, and answers what stopped it.
func against(t *testing.T, b []byte) api.Errno {
	t.Helper()
	want, e := second(b)
	got, f := msg.Decode(b)
	if f != e || !alike(got, want) {
		t.Fatalf("Decode(% x) = %s, %d, not %s, %d", b, told(got), f, told(want), e)
	}
	if e != api.OK {
		return e
	}
	// No other bytes are the form of what was read.
	if form, f := msg.Encode(got); f != api.OK || !bytes.Equal(form, b) {
		t.Fatalf("% x is read, but the form of what is read of it is % x, %d", b, form, f)
	}
	return e
}

// checkTold asks whether each way of ending has come up often enough to tell something.
func checkTold(t *testing.T, times map[api.Errno]int) {
	t.Helper()
	for _, e := range []api.Errno{api.OK, api.ErrShort, api.ErrLong, api.ErrForm} {
		if times[e] < 100 {
			t.Fatalf("%d is told %d times: the test asks too little", e, times[e])
		}
	}
}

// TestDecodeOfFormsWithOneByteOfAnother: each other byte at each place, each byte left out, some bytes put in.
func TestDecodeOfFormsWithOneByteOfAnother(t *testing.T) {
	times := map[api.Errno]int{}
	for _, m := range append(bases(), api.Msg{Kind: api.MsgSubmit, Who: dan, View: api.Ceiling, Num: api.Ceiling, Bytes: row(api.MaxData)}, api.Msg{Kind: api.MsgWelcome, Slot: 1, V: alone(1, ann)}) {
		form := formOf(m)
		for at := range form {
			for other := range 256 {
				b := bytes.Clone(form)
				b[at] = byte(other)
				times[against(t, b)]++
			}
			times[against(t, slices.Delete(bytes.Clone(form), at, at+1))]++
			for _, more := range []byte{0, 1, 2, 3, 0x7f, 0x80, 0xff} {
				times[against(t, slices.Insert(bytes.Clone(form), at, more))]++
			}
		}
	}
	checkTold(t, times)
}

// TestDecodeOfShortRows: of all rows of a kind and of up to five of some bytes.
func TestDecodeOfShortRows(t *testing.T) {
	times := map[api.Errno]int{}
	tails := [][]byte{nil}
	for at := 0; at < len(tails); at++ {
		for kind := range byte(17) {
			times[against(t, join([]byte{kind}, tails[at]))]++
		}
		if len(tails[at]) < 5 {
			for _, more := range []byte{0, 1, 2, 5, 16, 0x80} {
				tails = append(tails, append(bytes.Clone(tails[at]), more))
			}
		}
	}
	checkTold(t, times)
}

// TestDecodeOfAnyRows: of many rows that nearly are a form.
func TestDecodeOfAnyRows(t *testing.T) {
	source := rand.New(rand.NewSource(1010))
	good, bad := fits(), slices.Concat(fits(), faults())
	times := map[api.Errno]int{}
	for range 30000 {
		m := anyMsg(source, good, bad)
		b := formOf(m)
		for range source.Intn(4) - 2 {
			at := source.Intn(len(b))
			b = join(b[:at], pick(source, [][]byte{nil, {0}, {1}, {0x80}, numbers(1<<62 + 1), {b[at], b[at]}}), b[at+1:])
			if len(b) == 0 {
				break
			}
		}
		times[against(t, b)]++
	}
	checkTold(t, times)
}

// unlike answers messages of which no two are the same; of many two one field alone is another one.
func unlike() []api.Msg {
	all := []api.Msg{{}}
	strange := api.Msg{Kind: -7, Who: bob, View: 9, Slot: 9, Num: 9, Hops: -9, B: api.Ballot{Round: 9, Who: ann}, A: api.Ballot{Round: 8, Who: cal}, Has: true, C: change(alone(9, dan)), V: great(), Bytes: row(300)}
	for _, base := range []api.Msg{{}, bases()[0], bases()[5], bases()[12], strange} {
		for _, set := range []func(m *api.Msg){
			func(m *api.Msg) { m.Kind += 100 },
			func(m *api.Msg) { m.Kind += 1 << 32 },
			func(m *api.Msg) { m.Who.Id += 100 },
			func(m *api.Msg) { m.Who.Inc += 100 },
			func(m *api.Msg) { m.View += 100 },
			func(m *api.Msg) { m.View += 1 << 32 },
			func(m *api.Msg) { m.Slot += 100 },
			func(m *api.Msg) { m.Slot += 1 << 32 },
			func(m *api.Msg) { m.Num += 100 },
			func(m *api.Msg) { m.Num += 1 << 32 },
			func(m *api.Msg) { m.Hops += 100 },
			func(m *api.Msg) { m.Hops += 1 << 32 },
			func(m *api.Msg) { m.B.Round += 100 },
			func(m *api.Msg) { m.B.Who.Id += 100 },
			func(m *api.Msg) { m.B.Who.Inc += 100 },
			func(m *api.Msg) { m.A.Round += 100 },
			func(m *api.Msg) { m.A.Who.Id += 100 },
			func(m *api.Msg) { m.A.Who.Inc += 100 },
			func(m *api.Msg) { m.Has = !m.Has },
			func(m *api.Msg) { m.C.Kind += 100 },
			func(m *api.Msg) { m.C.Data = append(bytes.Clone(m.C.Data), 0) },
			func(m *api.Msg) { m.C.V.Id += 100 },
			func(m *api.Msg) { m.C.V.Leaves = append(slices.Clone(m.C.V.Leaves), nil) },
			func(m *api.Msg) { m.V.Id += 100 },
			func(m *api.Msg) { m.V.Members = append(slices.Clone(m.V.Members), none) },
			func(m *api.Msg) { m.V.Leaves = append(slices.Clone(m.V.Leaves), nil) },
			func(m *api.Msg) { m.V.Leaders = append(slices.Clone(m.V.Leaders), none) },
			func(m *api.Msg) { m.Bytes = append(bytes.Clone(m.Bytes), 0) },
			func(m *api.Msg) { m.Bytes = append([]byte{1}, m.Bytes...) },
			func(m *api.Msg) { m.Bytes = bytes.Repeat([]byte{200}, len(m.Bytes)+2) },
		} {
			all = append(all, turned(base, turn{"", set}))
		}
	}
	return slices.Concat(all, bases(), []api.Msg{strange, {Kind: math.MinInt}})
}

func TestSame(t *testing.T) {
	for at, a := range unlike() {
		for other, b := range unlike() {
			if got := msg.Same(a, b); got != (at == other) || got != alike(a, b) {
				t.Fatalf("Same(%s, %s) = %v", told(a), told(b), got)
			}
		}
	}
	var some []api.Msg
	for at, m := range goods() {
		if at%3 == 0 {
			some = append(some, m)
		}
	}
	for at, w := range bads() {
		if at%13 == 0 && len(w.m.Bytes) < 300 {
			some = append(some, w.m)
		}
	}
	for _, a := range some {
		for _, b := range some {
			if got := msg.Same(a, b); got != alike(a, b) {
				t.Fatalf("Same(%s, %s) = %v", told(a), told(b), got)
			}
		}
	}
	// Nil and no elements are both nothing.
	empty := api.View{Members: []api.Pid{}, Leaves: [][]api.Pid{}, Leaders: []api.Pid{}}
	for _, m := range []api.Msg{{}, {Kind: 9}, {Kind: api.MsgNeed, Slot: 5}} {
		other := m
		other.Bytes, other.V, other.C = []byte{}, empty, api.Cmd{Data: []byte{}, V: empty}
		if !msg.Same(m, other) || !msg.Same(other, m) {
			t.Fatalf("Same(%s) tells a list without elements from nil", told(m))
		}
	}
}

// P10.2

// many answers n suspects that may be, and rise.
func many(n int) []api.Pid {
	var l []api.Pid
	for at := range n {
		l = append(l, api.Pid{Id: uint16(at / 2), Inc: uint32(1 + at%2*300)})
	}
	return l
}

// inTheNumbers answers beats, each of whose numbers is one of some.
func inTheNumbers(some ...uint64) []api.Beat {
	var all []api.Beat
	for _, n := range some {
		all = append(all, api.Beat{View: n, Applied: 2, Below: 3, Stable: 4, Suspects: []api.Pid{ann}}, api.Beat{View: 1, Applied: n, Below: 3, Stable: 4}, api.Beat{View: 1, Applied: 2, Below: n, Stable: 4}, api.Beat{View: 1, Applied: 2, Below: 3, Stable: n, Suspects: many(3)})
	}
	return all
}

// goodBeats answers beats that may be.
func goodBeats() []api.Beat {
	all := []api.Beat{{}, {Suspects: []api.Pid{}}, {View: api.Ceiling, Applied: api.Ceiling, Below: api.Ceiling, Stable: api.Ceiling, Suspects: many(api.MaxMembers)}}
	for _, l := range [][]api.Pid{{cal}, {dan}, {cal, ann}, {cal, ann, bob, dan}, {{Id: 3, Inc: 1}, {Id: 3, Inc: 2}}, {{Id: 3, Inc: math.MaxUint32}, {Id: 4, Inc: 1}}, many(2), many(23), many(24), many(30)[6:]} {
		all = append(all, api.Beat{View: 1, Applied: 300, Below: 3, Stable: 4, Suspects: l})
	}
	return append(all, inTheNumbers(0, 1, 127, 128, 1<<32, api.Ceiling-1, api.Ceiling)...)
}

// badSuspects answers suspects of whom one may not be, or who don't rise, or are too many.
func badSuspects() map[string][][]api.Pid {
	over := slices.Repeat([]api.Pid{ann}, 1000)
	return map[string][][]api.Pid{
		"may not be": {{none}, {{Id: 3}}, {{Id: 16, Inc: 1}}, {{Id: 256 + 1, Inc: 1}}, {{Id: math.MaxUint16, Inc: math.MaxUint32}}, {none, ann}, {cal, {Id: 1}, bob}, {cal, ann, {Id: 15}}, {cal, dan, {Id: 16, Inc: 1}}, append(many(23), api.Pid{Id: 16, Inc: 1})},
		"don't rise": {{ann, ann}, {ann, cal}, {cal, bob, ann}, {ann, cal, bob}, {cal, ann, bob, bob}, {{Id: 3, Inc: 2}, {Id: 3, Inc: 1}}, {{Id: 4, Inc: 1}, {Id: 3, Inc: 2}}, {{Id: 1, Inc: 9}, {Id: 0, Inc: 10}}, append(many(23), cal), append([]api.Pid{dan}, many(23)...)},
		"too many":   {many(25), many(26), many(30), append(many(24), many(24)[23]), over},
	}
}

// badBeats answers beats that may not be.
func badBeats() []api.Beat {
	all := inTheNumbers(api.Ceiling+1, api.Ceiling+2, 1<<63, 1<<63+1, math.MaxUint64)
	for _, lists := range badSuspects() {
		for _, l := range lists {
			all = append(all, api.Beat{View: 1, Applied: 2, Below: 3, Stable: 4, Suspects: l}, api.Beat{Suspects: l})
		}
	}
	return all
}

// beatForm answers a beat's form, made without package msg, be it one that may be or not.
func beatForm(b api.Beat) []byte {
	form := numbers(b.View, b.Applied, b.Below, b.Stable, uint64(len(b.Suspects)))
	for _, p := range b.Suspects {
		form = join(form, pidForm(p))
	}
	return form
}

// alikeBeat tells whether two beats are the same.
func alikeBeat(a, b api.Beat) bool {
	return a.View == b.View && a.Applied == b.Applied && a.Below == b.Below && a.Stable == b.Stable && slices.Equal(a.Suspects, b.Suspects)
}

// checkBeatStops asks whether no beat is read of b, and why.
func checkBeatStops(t *testing.T, why string, b []byte, want api.Errno) {
	t.Helper()
	if got, e := msg.DecodeBeat(b); e != want || !alikeBeat(got, api.Beat{}) {
		t.Fatalf("%s: DecodeBeat(% x) = %v, %d, not %d", why, b, got, e, want)
	}
}

func TestBeats(t *testing.T) {
	for _, b := range goodBeats() {
		form, e := msg.EncodeBeat(b)
		if e != api.OK || !bytes.Equal(form, beatForm(b)) {
			t.Fatalf("EncodeBeat(%v) = % x, %d", b, form, e)
		}
		if got, e := msg.DecodeBeat(form); e != api.OK || !alikeBeat(got, b) {
			t.Fatalf("DecodeBeat(% x) = %v, %d", form, got, e)
		}
		for cut := range form {
			checkBeatStops(t, "a beginning", form[:cut], api.ErrShort)
		}
		for _, behind := range [][]byte{{0}, {1}, {0x80}, {255, 255}, form} {
			checkBeatStops(t, "bytes are left", join(form, behind), api.ErrForm)
		}
	}
	checkBeatStops(t, "nothing", nil, api.ErrShort)
	for _, b := range badBeats() {
		if form, e := msg.EncodeBeat(b); e != api.ErrArg || len(form) != 0 {
			t.Fatalf("EncodeBeat(%v) = % x, %d", b, form, e)
		}
	}
	got, e := msg.EncodeBeat(api.Beat{View: 1, Applied: 300, Below: 3, Stable: 4, Suspects: []api.Pid{cal, bob}})
	if want := []byte{1, 0xac, 2, 3, 4, 2, 0, 1, 2, 7}; e != api.OK || !bytes.Equal(got, want) {
		t.Fatalf("EncodeBeat = % x, %d, not % x", got, e, want)
	}
}

func TestDecodeBeatOfWhatMayNotBe(t *testing.T) {
	for why, want := range map[string]api.Errno{"may not be": api.ErrForm, "don't rise": api.ErrForm, "too many": api.ErrLong} {
		for _, l := range badSuspects()[why] {
			form := beatForm(api.Beat{View: 1, Applied: 2, Below: 3, Stable: 4, Suspects: l})
			checkBeatStops(t, why, form, want)
			checkBeatStops(t, why+", and bytes are left", join(form, []byte{0}), want)
			if want == api.ErrForm {
				checkBeatStops(t, why+", and all isn't whole", form[:len(form)-1], api.ErrShort)
			} else {
				// It is told ahead of them.
				checkBeatStops(t, why+", and none is there", numbers(1, 2, 3, 4, uint64(len(l))), want)
			}
		}
	}
}

func TestDecodeBeatOfNumbersThatCantBeRead(t *testing.T) {
	ahead := []byte{}
	for range 4 {
		for _, behind := range [][]byte{nil, {1}, {1, 1, 1, 0}, {0}, {0x81, 0}, {255, 255}} {
			for _, n := range []uint64{api.Ceiling + 1, api.Ceiling + 2, 1 << 63, 1<<63 + 1, math.MaxUint64} {
				checkBeatStops(t, "a number", join(ahead, numbers(n), behind), api.ErrLong)
			}
			checkBeatStops(t, "a number in no short form", join(ahead, []byte{0x81, 0}, behind), api.ErrForm)
		}
		ahead = append(ahead, 1)
	}
	for _, n := range []uint64{25, 26, 127, 256, 1 << 32, 1<<32 + 1, 1 << 63, math.MaxUint64} {
		checkBeatStops(t, "too many", join(ahead, numbers(n), row(60)), api.ErrLong)
	}
	for _, p := range [][]byte{numbers(1<<16, 1), numbers(1, 1<<32), {0x81, 0, 1}, {1, 0x81, 0}} {
		for _, behind := range [][]byte{nil, {1, 1}, {0x81, 0}} {
			checkBeatStops(t, "a suspect that can't be read", join(ahead, []byte{2}, p, behind), api.ErrForm)
			checkBeatStops(t, "a suspect that can't be read", join(ahead, []byte{3, 0, 1}, p, behind), api.ErrForm)
		}
	}
}

// secondBeat answers what a second reading of the chapter reads of b.
func secondBeat(b []byte) (api.Beat, api.Errno) {
	m := &model{b: b}
	out := api.Beat{View: m.num(1 << 62), Applied: m.num(1 << 62), Below: m.num(1 << 62), Stable: m.num(1 << 62)}
	rises := true
	for range m.num(24) {
		p := m.pid()
		if l := out.Suspects; !mayPid(p) || len(l) > 0 && (l[len(l)-1].Id > p.Id || l[len(l)-1].Id == p.Id && l[len(l)-1].Inc >= p.Inc) {
			rises = false
		}
		out.Suspects = append(out.Suspects, p)
	}
	if m.e == api.OK && (m.at < len(b) || !rises) {
		m.e = api.ErrForm
	}
	if m.e != api.OK {
		return api.Beat{}, m.e
	}
	return out, api.OK
}

// againstBeat asks whether DecodeBeat reads of b what the second reading does, and answers what stopped it.
func againstBeat(t *testing.T, b []byte) api.Errno {
	t.Helper()
	want, e := secondBeat(b)
	got, f := msg.DecodeBeat(b)
	if f != e || !alikeBeat(got, want) {
		t.Fatalf("DecodeBeat(% x) = %v, %d, not %v, %d", b, got, f, want, e)
	}
	if e != api.OK {
		return e
	}
	if form, f := msg.EncodeBeat(got); f != api.OK || !bytes.Equal(form, b) {
		t.Fatalf("% x is read, but the form of what is read of it is % x, %d", b, form, f)
	}
	return e
}

func TestDecodeBeatAgainstASecondReading(t *testing.T) {
	times := map[api.Errno]int{}
	for _, b := range goodBeats() {
		form := beatForm(b)
		for at := range form {
			for other := range 256 {
				turned := bytes.Clone(form)
				turned[at] = byte(other)
				times[againstBeat(t, turned)]++
			}
			times[againstBeat(t, slices.Delete(bytes.Clone(form), at, at+1))]++
			for _, more := range []byte{0, 1, 2, 15, 16, 0x80, 0xff} {
				times[againstBeat(t, slices.Insert(bytes.Clone(form), at, more))]++
			}
		}
	}
	checkTold(t, times)
	times = map[api.Errno]int{}
	source := rand.New(rand.NewSource(102))
	some := []uint64{0, 1, 1, 1, 2, 300, api.Ceiling, api.Ceiling, api.Ceiling, api.Ceiling + 1}
	for range 50000 {
		n := source.Intn(5)
		b := numbers(pick(source, some), pick(source, some), pick(source, some), pick(source, some), uint64(n))
		for at := range n {
			b = join(b, numbers(uint64(max(0, at*4+source.Intn(6)-1)), uint64(source.Intn(9))))
		}
		times[againstBeat(t, b[:len(b)-max(0, source.Intn(9)-7)])]++
	}
	checkTold(t, times)
}

// P10.3

func TestWhatHasAFormIsReadAsItWas(t *testing.T) {
	source := rand.New(rand.NewSource(103))
	all := goods()
	for range 20000 {
		all = append(all, anyMsg(source, fitsOnce, fitsOnce))
	}
	read := 0
	for _, m := range all {
		form, e := msg.Encode(m)
		if e != api.OK {
			continue
		}
		got, e := msg.Decode(form)
		if e != api.OK || !alike(got, m) || !msg.Same(got, m) || !msg.Same(m, got) {
			t.Fatalf("%s is read as %s, %d", told(m), told(got), e)
		}
		read++
	}
	if read < 5000 {
		t.Fatalf("%d alone have a form", read)
	}
}

// fitsOnce are fits, made once.
var fitsOnce = fits()

// P10.4

func TestText(t *testing.T) {
	b, a := api.Ballot{Round: 300, Who: bob}, api.Ballot{Round: 0, Who: ann}
	for _, one := range []struct {
		m    api.Msg
		want string
	}{
		{api.Msg{Kind: api.MsgSubmit, Who: ann, View: 2, Num: 3, Hops: 4, Bytes: []byte{0, 0x0f, 0xf0, 0xab}}, "submit 1.1 v2 n3 h4 x000ff0ab"},
		{api.Msg{Kind: api.MsgSubmit, Who: dan}, "submit 15.4294967295 v0 n0 h0 x"},
		{api.Msg{Kind: api.MsgSubmit, Who: dan, View: api.Ceiling, Num: api.Ceiling - 1, Bytes: bytes.Repeat([]byte{1}, api.MaxData)}, "submit 15.4294967295 v4611686018427387904 n4611686018427387903 h0 x" + strings.Repeat("01", api.MaxData)},
		{api.Msg{Kind: api.MsgChosen, Slot: 5, Hops: 1, C: nop()}, "chosen s5 h1 [nop]"},
		{api.Msg{Kind: api.MsgChosen, Slot: 5, C: send([]byte("a"))}, "chosen s5 h0 [send 2.7 2 3 x61]"},
		{api.Msg{Kind: api.MsgNeed, Slot: 5}, "need s5"},
		{api.Msg{Kind: api.MsgNeed}, "need s0"},
		{api.Msg{Kind: api.MsgPrepare, Slot: 5, B: b}, "prepare s5 b300:2.7"},
		{api.Msg{Kind: api.MsgPromise, Slot: 5, B: b}, "promise s5 b300:2.7"},
		{api.Msg{Kind: api.MsgPromise, Slot: 5, B: b, Has: true, A: a, C: nop()}, "promise s5 b300:2.7 a0:1.1 [nop]"},
		{api.Msg{Kind: api.MsgAccept, Slot: 5, B: a, C: change(three())}, "accept s5 b0:1.1 [view 300 1.1/0* 15.4294967295/1* 0.1/0]"},
		{api.Msg{Kind: api.MsgAccepted, Slot: 5, B: b}, "accepted s5 b300:2.7"},
		{api.Msg{Kind: api.MsgNack, Slot: 5, B: api.Ballot{Round: math.MaxUint32, Who: dan}}, "nack s5 b4294967295:15.4294967295"},
		{api.Msg{Kind: api.MsgFlush, View: 6, Hops: 2}, "flush v6 h2"},
		{api.Msg{Kind: api.MsgFlushed, Who: cal, View: 6, Num: 7, Hops: 3}, "flushed 0.1 v6 n7 h3"},
		{api.Msg{Kind: api.MsgJoin, Who: bob, Hops: 1}, "join 2.7 h1"},
		{api.Msg{Kind: api.MsgWelcome, Slot: 5, V: alone(9, ann), Bytes: []byte{8}}, "welcome s5 [9 1.1/0*] x08"},
		{api.Msg{Kind: api.MsgWelcome, Slot: 5, V: three()}, "welcome s5 [300 1.1/0* 15.4294967295/1* 0.1/0] x"},
		{api.Msg{Kind: api.MsgLeave, Who: bob}, "leave 2.7 h0"},
		{api.Msg{Kind: api.MsgExpel, View: 1}, "expel v1"},
		{api.Msg{}, "?"},
		{api.Msg{Kind: 15}, "?"},
		{api.Msg{Kind: api.MsgJoin}, "?"},
		{api.Msg{Kind: api.MsgNeed, Slot: 5, View: 1}, "?"},
		{api.Msg{Kind: api.MsgPromise, Slot: 5, B: b, Has: true, A: a}, "?"},
	} {
		if got := msg.Text(one.m); got != one.want {
			t.Errorf("Text(%s) = %q, not %q", told(one.m), got, one.want)
		}
	}
	for _, w := range bads() {
		if got := msg.Text(w.m); got != "?" {
			t.Errorf("%s: Text(%s) = %q", w.why, told(w.m), got[:min(len(got), 100)])
		}
	}
}

// textOf answers m's text, made without package msg.
func textOf(m api.Msg) string {
	if !mayBe(m) {
		return "?"
	}
	ballot := func(b api.Ballot) string { return fmt.Sprintf("%d:%d.%d", b.Round, b.Who.Id, b.Who.Inc) }
	inView, _ := view.Print(m.V)
	parts := map[string]string{
		"Who": fmt.Sprintf("%d.%d", m.Who.Id, m.Who.Inc), "View": fmt.Sprint("v", m.View), "Slot": fmt.Sprint("s", m.Slot), "B": "b" + ballot(m.B), "Num": fmt.Sprint("n", m.Num),
		"Hops": fmt.Sprint("h", m.Hops), "A": "a" + ballot(m.A), "C": "[" + cmd.Text(m.C) + "]", "V": "[" + inView + "]", "Bytes": fmt.Sprintf("x%x", m.Bytes),
	}
	text := []string{words[m.Kind]}
	for _, name := range strings.Fields("Who View Slot B Num Hops A C V Bytes") {
		if slices.Contains(fieldsOf(m), name) {
			text = append(text, parts[name])
		}
	}
	return strings.Join(text, " ")
}

func TestTextOfMany(t *testing.T) {
	for _, m := range slices.Concat(goods(), unlike()) {
		if got := msg.Text(m); got != textOf(m) {
			t.Fatalf("Text(%s) = %q, not %q", told(m), got, textOf(m))
		}
	}
}

func TestBeatText(t *testing.T) {
	for _, one := range []struct {
		b    api.Beat
		want string
	}{
		{api.Beat{}, "beat v0 a0 l0 s0"},
		{api.Beat{View: 1, Applied: 2, Below: 3, Stable: 4}, "beat v1 a2 l3 s4"},
		{api.Beat{View: 1, Applied: 2, Below: 3, Stable: 4, Suspects: []api.Pid{cal, dan}}, "beat v1 a2 l3 s4 !0.1 !15.4294967295"},
		{api.Beat{View: api.Ceiling, Applied: 10, Below: 200, Stable: api.Ceiling, Suspects: []api.Pid{{Id: 3, Inc: 1}, {Id: 3, Inc: 2}}}, "beat v4611686018427387904 a10 l200 s4611686018427387904 !3.1 !3.2"},
	} {
		if got := msg.BeatText(one.b); got != one.want {
			t.Errorf("BeatText(%v) = %q, not %q", one.b, got, one.want)
		}
	}
	for _, b := range goodBeats() {
		want := fmt.Sprintf("beat v%d a%d l%d s%d", b.View, b.Applied, b.Below, b.Stable)
		for _, p := range b.Suspects {
			want += fmt.Sprintf(" !%d.%d", p.Id, p.Inc)
		}
		if got := msg.BeatText(b); got != want {
			t.Errorf("BeatText(%v) = %q, not %q", b, got, want)
		}
	}
	for _, b := range badBeats() {
		if got := msg.BeatText(b); got != "?" {
			t.Errorf("BeatText(%v) = %q", b, got)
		}
	}
}

// P1, in layer 10

// widen answers l with room behind its end that holds other things.
func widen(l []api.Pid) []api.Pid { return slices.Concat(l, []api.Pid{dan, none, bob})[:len(l)] }

// wideView answers v in new memory, with room behind the ends of its lists.
func wideView(v api.View) api.View {
	wide := api.View{Id: v.Id, Members: widen(v.Members), Leaders: widen(v.Leaders)}
	for _, leaf := range v.Leaves {
		wide.Leaves = append(wide.Leaves, widen(leaf))
	}
	wide.Leaves = slices.Concat(wide.Leaves, [][]api.Pid{{bob}, nil})[:len(v.Leaves)]
	return wide
}

// wideMsg answers m in new memory, with room behind the ends of its lists.
func wideMsg(m api.Msg) api.Msg {
	more := row(api.MaxData + 9)
	m.C.Data, m.Bytes = join(m.C.Data, more)[:len(m.C.Data)], join(m.Bytes, more)[:len(m.Bytes)]
	m.C.V, m.V = wideView(m.C.V), wideView(m.V)
	return m
}

// allOf answers all that m's lists hold, with the room behind them.
func allOf(m api.Msg) string {
	s := fmt.Sprint(m.Kind, m.C.Data[:cap(m.C.Data)], m.Bytes[:cap(m.Bytes)])
	for _, v := range []api.View{m.C.V, m.V} {
		leaves := v.Leaves[:cap(v.Leaves)]
		s += fmt.Sprint(v.Members[:cap(v.Members)], v.Leaders[:cap(v.Leaders)], len(leaves))
		for _, leaf := range leaves {
			s += fmt.Sprint(leaf[:cap(leaf)], len(leaf))
		}
	}
	return s
}

// spoil turns all that m's lists hold, and what is in the room behind.
func spoil(m api.Msg) {
	for _, b := range [][]byte{m.C.Data, m.Bytes} {
		for at := range b[:cap(b)] {
			b[:cap(b)][at] ^= 0xff
		}
	}
	for _, v := range []api.View{m.C.V, m.V} {
		for _, l := range append(slices.Clone(v.Leaves), v.Members, v.Leaders) {
			for at := range l[:cap(l)] {
				l[:cap(l)][at] = api.Pid{Id: 99, Inc: 99}
			}
		}
		for at := range v.Leaves[:cap(v.Leaves)] {
			v.Leaves[:cap(v.Leaves)][at] = []api.Pid{{Id: 98, Inc: 98}}
		}
	}
}

func TestNothingHandedIsChangedAndNoRoomIsRead(t *testing.T) {
	some := slices.Concat(goods(), unlike())
	for at, w := range bads() {
		if at%5 == 0 && len(w.m.Bytes) < 300 {
			some = append(some, w.m)
		}
	}
	for _, m := range some {
		wide := wideMsg(m)
		before := allOf(wide)
		want, form := api.ErrArg, []byte(nil)
		if mayBe(m) {
			want, form = api.OK, formOf(m)
		}
		// Twice, as a call that keeps something tells another thing at the second time.
		for range 2 {
			got, e := msg.Encode(wide)
			if msg.Check(wide) != want || e != want || !bytes.Equal(got, form) || msg.Text(wide) != textOf(m) || !msg.Same(wide, m) || !msg.Same(m, wide) {
				t.Fatalf("of %s with room behind it something else is told", told(m))
			}
			clear(got[:cap(got)])
		}
		if allOf(wide) != before {
			t.Fatalf("%s, or the room behind it, is changed", told(m))
		}
	}
}

func TestNoBeatHandedIsChangedAndNoRoomIsRead(t *testing.T) {
	for _, b := range slices.Concat(goodBeats(), badBeats()) {
		wide := b
		wide.Suspects = widen(b.Suspects)
		before := slices.Clone(wide.Suspects[:cap(wide.Suspects)])
		for range 2 {
			form, e := msg.EncodeBeat(b)
			got, f := msg.EncodeBeat(wide)
			if e != f || !bytes.Equal(form, got) || msg.BeatText(b) != msg.BeatText(wide) {
				t.Fatalf("of %v with room behind it something else is told", b)
			}
			clear(got[:cap(got)])
		}
		if !slices.Equal(wide.Suspects[:cap(wide.Suspects)], before) {
			t.Fatalf("%v, or the room behind it, is changed", b)
		}
	}
}

// TestDecodeAnswersNewMemory: neither what was handed, nor what was read another time, is turned with what was read.
func TestDecodeAnswersNewMemory(t *testing.T) {
	for _, m := range bases() {
		form := formOf(m)
		room := join(form, row(50))
		first, e := msg.Decode(room[:len(form)])
		second, f := msg.Decode(room[:len(form)])
		if e != api.OK || f != api.OK {
			t.Fatalf("Decode(% x) = %d, %d", form, e, f)
		}
		spoil(first)
		if !alike(second, m) || !bytes.Equal(room, join(form, row(50))) {
			t.Fatalf("what is read of % x shares memory", form)
		}
		clear(room)
		if !alike(second, m) {
			t.Fatalf("what is read of % x is that itself", form)
		}
	}
	form := beatForm(api.Beat{View: 1, Suspects: many(3)})
	first, _ := msg.DecodeBeat(form)
	second, _ := msg.DecodeBeat(form)
	clear(first.Suspects[:cap(first.Suspects)])
	if !bytes.Equal(form, beatForm(second)) || !slices.Equal(second.Suspects, many(3)) {
		t.Fatal("two beats that are read share memory")
	}
}

// TestRoomBehindAFormIsNotRead: what is missing stands in the room behind the length.
func TestRoomBehindAFormIsNotRead(t *testing.T) {
	for _, m := range bases() {
		form := formOf(m)
		for cut := range form {
			checkStops(t, "room behind", form[:cut:len(form)], api.ErrShort)
		}
		if !bytes.Equal(form, formOf(m)) {
			t.Fatal("a form is changed as it is read")
		}
	}
	form := beatForm(api.Beat{View: 1, Suspects: many(3)})
	for cut := range form {
		checkBeatStops(t, "room behind", form[:cut:len(form)], api.ErrShort)
	}
}

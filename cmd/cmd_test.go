package cmd_test

import (
	"bytes"
	"encoding/binary"
	"fmt"
	"math"
	"math/rand"
	"slices"
	"strings"
	"testing"

	"choragus/api"
	"choragus/body"
	"choragus/cmd"
	"choragus/view"
)

var (
	none = api.Pid{}
	cal  = api.Pid{Id: 0, Inc: 1}
	ann  = api.Pid{Id: 1, Inc: 1}
	bob  = api.Pid{Id: 2, Inc: 7}
	dan  = api.Pid{Id: 15, Inc: math.MaxUint32}
)

// row answers n bytes, no two neighbours of which are the same.
func row(n int) []byte {
	b := make([]byte, n)
	for at := range b {
		b[at] = byte(at*37 + 1)
	}
	return b
}

// send answers a message's command.
func send(from api.Pid, num, in uint64, data []byte) api.Cmd {
	return api.Cmd{Kind: api.CmdSend, From: from, Num: num, View: in, Data: data}
}

// change answers a view's command.
func change(v api.View) api.Cmd { return api.Cmd{Kind: api.CmdView, V: v} }

// nop answers the command of nothing.
func nop() api.Cmd { return api.Cmd{Kind: api.CmdNop} }

// example answers the chapter's message.
func example() api.Cmd { return send(ann, 2, 3, []byte("a")) }

// alone answers the view of one member.
func alone(id uint64, p api.Pid) api.View {
	return api.View{Id: id, Members: []api.Pid{p}, Leaves: [][]api.Pid{{p}}, Leaders: []api.Pid{p}}
}

// three answers a view of three members in two leaves, two of whom lead.
func three() api.View {
	return api.View{Id: 300, Members: []api.Pid{ann, dan, cal}, Leaves: [][]api.Pid{{ann, cal}, {dan}}, Leaders: []api.Pid{ann, dan}}
}

// great answers the view with as many members as any view has, two a leaf, all of whom lead.
func great() api.View {
	v := api.View{Id: api.Ceiling}
	for id := range uint16(api.MaxProcs) {
		v.Members = append(v.Members, api.Pid{Id: id, Inc: math.MaxUint32})
	}
	for at := 0; at < len(v.Members); at += 2 {
		v.Leaves = append(v.Leaves, slices.Clone(v.Members[at:at+2]))
	}
	v.Leaders = slices.Clone(v.Members)
	return v
}

// emptyView answers a zero view whose lists are none but nil.
func emptyView() api.View {
	return api.View{Members: []api.Pid{}, Leaves: [][]api.Pid{}, Leaders: []api.Pid{}}
}

// goodViews answers views that may be.
func goodViews() []api.View {
	return []api.View{alone(1, ann), alone(2, ann), alone(127, cal), alone(128, bob), alone(api.Ceiling-1, dan), alone(api.Ceiling, dan), three(), great()}
}

// badViews answers views that may not be, a zero one not among them.
func badViews() []api.View {
	turn := func(turn func(v *api.View)) api.View {
		v := three()
		turn(&v)
		return v
	}
	return []api.View{
		{Id: 1}, {Id: math.MaxUint64}, {Members: []api.Pid{ann}}, {Members: []api.Pid{none}}, {Leaves: [][]api.Pid{nil}}, {Leaves: [][]api.Pid{{ann}}}, {Leaders: []api.Pid{ann}}, {Leaders: []api.Pid{none}},
		turn(func(v *api.View) { v.Id = 0 }), turn(func(v *api.View) { v.Id = api.Ceiling + 1 }), turn(func(v *api.View) { v.Members = v.Members[:2] }),
		turn(func(v *api.View) { v.Members[1].Inc = 0 }), turn(func(v *api.View) { v.Leaves = v.Leaves[:1] }), turn(func(v *api.View) { v.Leaders = nil }),
		turn(func(v *api.View) { v.Leaders[1] = bob }), turn(func(v *api.View) { v.Leaves = append(v.Leaves, nil) }),
	}
}

// goods answers commands that may be, of each kind, with the least and the greatest of all that they have.
func goods() []api.Cmd {
	all := []api.Cmd{example(), nop(), {Kind: api.CmdNop, Data: []byte{}, V: emptyView()}}
	for _, from := range []api.Pid{cal, ann, bob, dan} {
		for _, num := range []uint64{1, 2, 127, 128, api.Ceiling - 1, api.Ceiling} {
			for _, in := range []uint64{1, 3, 1 << 32, api.Ceiling - 1, api.Ceiling} {
				for _, data := range [][]byte{nil, {}, {0}, {255}, row(2), row(127), row(128), row(api.MaxData - 1), row(api.MaxData)} {
					all = append(all, send(from, num, in, data))
				}
			}
		}
	}
	for _, v := range goodViews() {
		all = append(all, change(v), api.Cmd{Kind: api.CmdView, Data: []byte{}, V: v})
	}
	with := example()
	with.V = emptyView()
	return append(all, with)
}

// a wrong is a command that may not be, and why.
type wrong struct {
	why string
	c   api.Cmd
}

// noKinds are numbers of which no command's kind is one, some that are one if they are made narrow among them.
var noKinds = []int{0, 4, 5, 127, 128, 256 + 1, 256 + 2, 1<<16 + 3, 1<<32 + 1, 1<<32 + 2, 1<<32 + 3, -1, -2, -3, -255, math.MaxInt, math.MinInt, math.MinInt + 1}

// bads answers commands that may not be, each for one thing alone, but for how long the Data of a message is.
func bads() []wrong {
	all := []wrong{{"a zero one", api.Cmd{}}}
	for _, kind := range noKinds {
		for _, c := range []api.Cmd{nop(), example(), change(three())} {
			c.Kind = kind
			all = append(all, wrong{"a kind that is none", c})
		}
	}
	for _, p := range []api.Pid{none, {Id: 1}, {Id: 15}, {Id: 16, Inc: 1}, {Id: 256 + 1, Inc: 1}, {Id: math.MaxUint16, Inc: math.MaxUint32}} {
		all = append(all, wrong{"a From that may not be", send(p, 2, 3, row(1))})
	}
	for _, n := range []uint64{0, api.Ceiling + 1, api.Ceiling + 2, 1 << 63, 1<<63 + 1, math.MaxUint64} {
		all = append(all, wrong{"a Num that may not be", send(ann, n, 3, row(1))}, wrong{"a View that may not be", send(ann, 2, n, row(1))})
	}
	for _, v := range append(badViews(), api.View{}, emptyView()) {
		all = append(all, wrong{"a V that may not be", change(v)})
	}
	return append(all, fieldsOfOthers()...)
}

// fieldsOfOthers answers commands in which one field is set that their kind doesn't have.
func fieldsOfOthers() []wrong {
	var all []wrong
	with := func(c api.Cmd, why string, turn func(c *api.Cmd)) {
		turn(&c)
		all = append(all, wrong{why + " where there is none", c})
	}
	for _, c := range []api.Cmd{nop(), change(three())} {
		for _, p := range []api.Pid{ann, dan, {Id: 1}, {Id: 16}, {Inc: 1}} {
			with(c, "a From", func(c *api.Cmd) { c.From = p })
		}
		for _, n := range []uint64{1, 2, api.Ceiling, api.Ceiling + 1, math.MaxUint64} {
			with(c, "a Num", func(c *api.Cmd) { c.Num = n })
			with(c, "a View", func(c *api.Cmd) { c.View = n })
		}
		for _, n := range []int{1, 2, api.MaxData, api.MaxData + 1, 5000} {
			with(c, "Data", func(c *api.Cmd) { c.Data = row(n) })
		}
		with(c, "Data of 0", func(c *api.Cmd) { c.Data = []byte{0} })
	}
	for _, c := range []api.Cmd{nop(), example(), send(dan, 1, 1, nil), send(dan, 1, 1, row(api.MaxData))} {
		for _, v := range append(goodViews(), badViews()...) {
			with(c, "a V", func(c *api.Cmd) { c.V = v })
		}
	}
	return all
}

// tooLong answers messages that may be but for how long their Data is.
func tooLong() []api.Cmd {
	var all []api.Cmd
	for _, n := range []int{api.MaxData + 1, api.MaxData + 2, 255, 256, 256 + 1, api.MaxBody, 1 << 16, 1 << 20} {
		all = append(all, send(ann, 1, 1, make([]byte, n)), send(dan, api.Ceiling, api.Ceiling, row(n)))
	}
	return all
}

// crossed answers commands with each of some values in each field: few of them may be.
func crossed() []api.Cmd {
	var all []api.Cmd
	numbers := []uint64{0, 1, api.Ceiling, api.Ceiling + 1}
	for _, kind := range []int{-1, 0, api.CmdNop, api.CmdSend, api.CmdView, 4} {
		for _, from := range []api.Pid{none, ann, {Id: 1}, {Id: 16, Inc: 1}} {
			for _, num := range numbers {
				for _, in := range numbers {
					for _, data := range [][]byte{nil, {}, {0}, row(api.MaxData), row(api.MaxData + 1)} {
						for _, v := range []api.View{{}, emptyView(), alone(1, ann), three(), {Id: 1}, {Leaves: [][]api.Pid{nil}}} {
							all = append(all, api.Cmd{Kind: kind, From: from, Num: num, View: in, Data: data, V: v})
						}
					}
				}
			}
		}
	}
	return all
}

// isZeroView tells whether a view is a zero one; nil and no elements are both nothing.
func isZeroView(v api.View) bool {
	return v.Id == 0 && len(v.Members)+len(v.Leaves)+len(v.Leaders) == 0
}

// isZero tells whether a command is a zero one.
func isZero(c api.Cmd) bool {
	return c.Kind == 0 && c.From == none && c.Num == 0 && c.View == 0 && len(c.Data) == 0 && isZeroView(c.V)
}

// errnoOf answers what Check answers of c, by a second reading of the chapter: field by field.
func errnoOf(c api.Cmd) api.Errno {
	is, fields := c.Kind, c
	fields.Kind = 0
	switch {
	case is == 1 && isZero(fields):
		return api.OK
	case is == 2 && c.From.Id < 16 && c.From.Inc > 0 && c.Num > 0 && c.Num <= 1<<62 && c.View > 0 && c.View <= 1<<62 && isZeroView(c.V):
		if len(c.Data) > 200 {
			return api.ErrTooLarge
		}
		return api.OK
	case is == 3 && view.Check(c.V) == api.OK:
		fields.V = api.View{}
		if isZero(fields) {
			return api.OK
		}
	}
	return api.ErrArg
}

// told answers a command's beginning, to be printed where a test fails.
func told(c api.Cmd) string {
	s := fmt.Sprintf("%+v", c)
	return s[:min(len(s), 300)]
}

// P9.1

func TestCheck(t *testing.T) {
	for _, c := range goods() {
		if got := cmd.Check(c); got != api.OK || errnoOf(c) != api.OK {
			t.Fatalf("Check(%s) = %d", told(c), got)
		}
	}
	for _, w := range bads() {
		if got := cmd.Check(w.c); got != api.ErrArg || errnoOf(w.c) != api.ErrArg {
			t.Errorf("%s: Check(%s) = %d", w.why, told(w.c), got)
		}
	}
	for _, c := range tooLong() {
		if got := cmd.Check(c); got != api.ErrTooLarge || errnoOf(c) != api.ErrTooLarge {
			t.Errorf("Check of %d bytes of Data = %d", len(c.Data), got)
		}
	}
}

// TestCheckOfBothFaults: what may not be is told ahead of Data that is too long.
func TestCheckOfBothFaults(t *testing.T) {
	for _, n := range []int{api.MaxData + 1, 5000} {
		for _, c := range []api.Cmd{
			send(none, 2, 3, row(n)), send(api.Pid{Id: 16, Inc: 1}, 2, 3, row(n)), send(ann, 0, 3, row(n)), send(ann, 2, 0, row(n)), send(ann, api.Ceiling+1, 3, row(n)), send(ann, 2, api.Ceiling+1, row(n)),
			{Kind: api.CmdSend, From: ann, Num: 2, View: 3, Data: row(n), V: three()}, {Kind: api.CmdSend, From: ann, Num: 2, View: 3, Data: row(n), V: api.View{Id: 1}},
			{Kind: api.CmdNop, Data: row(n)}, {Kind: api.CmdView, V: three(), Data: row(n)}, {Kind: api.CmdView, Data: row(n)}, {Data: row(n)}, {Kind: 4, From: ann, Num: 2, View: 3, Data: row(n)},
		} {
			if got := cmd.Check(c); got != api.ErrArg {
				t.Errorf("Check(%s) = %d", told(c), got)
			}
		}
	}
}

func TestCheckOfCrossedFields(t *testing.T) {
	times := map[api.Errno]int{}
	for _, c := range crossed() {
		want := errnoOf(c)
		if got := cmd.Check(c); got != want {
			t.Fatalf("Check(%s) = %d, not %d", told(c), got, want)
		}
		times[want]++
	}
	// A nop without Data (nil, or none) and V (zero, in two ways); a message of ann with two numbers each for Num and View, and these Vs; two views, with no Data.
	if may, long := 2*2+2*2*4*2+2*2, 2*2*2; times[api.OK] != may || times[api.ErrTooLarge] != long {
		t.Fatalf("%d may be, and %d are too long, not %d, %d", times[api.OK], times[api.ErrTooLarge], may, long)
	}
}

// numbers answers the short forms of all, one behind the other.
func numbers(all ...uint64) []byte {
	var b []byte
	for _, n := range all {
		b = binary.AppendUvarint(b, n)
	}
	return b
}

// join answers all parts in new memory, one behind the other.
func join(parts ...[]byte) []byte { return slices.Concat(parts...) }

// viewForm answers the form of a view.
func viewForm(v api.View) []byte {
	w := &body.Writer{}
	view.Put(w, v)
	return w.Done()
}

// formOf answers c's form, made without package cmd, be c one that may be or not.
func formOf(c api.Cmd) []byte {
	form := numbers(uint64(c.Kind))
	if c.Kind == api.CmdSend {
		form = join(form, numbers(uint64(c.From.Id), uint64(c.From.Inc), c.Num, c.View, uint64(len(c.Data))), c.Data)
	}
	if c.Kind == api.CmdView {
		form = join(form, viewForm(c.V))
	}
	return form
}

// laid answers what a Writer has that has laid all of l.
func laid(l ...api.Cmd) []byte {
	w := &body.Writer{}
	for _, c := range l {
		cmd.Put(w, c)
	}
	return w.Done()
}

func TestPutOfExamples(t *testing.T) {
	for _, one := range []struct {
		c    api.Cmd
		want []byte
	}{
		{nop(), []byte{1}},
		{example(), []byte{2, 1, 1, 2, 3, 1, 'a'}},
		{send(dan, 300, 1, nil), []byte{2, 15, 255, 255, 255, 255, 15, 0xac, 2, 1, 0}},
		{change(alone(1, ann)), []byte{3, 1, 1, 1, 1, 1, 1, 0, 1, 0}},
		{change(three()), []byte{3, 0xac, 2, 3, 1, 1, 15, 255, 255, 255, 255, 15, 0, 1, 2, 2, 0, 2, 1, 1, 2, 0, 1}},
	} {
		if got := laid(one.c); !bytes.Equal(got, one.want) {
			t.Errorf("Put(%s) = % x, not % x", told(one.c), got, one.want)
		}
	}
}

func TestPut(t *testing.T) {
	for _, c := range goods() {
		if got := laid(c); !bytes.Equal(got, formOf(c)) {
			t.Fatalf("Put(%s) = % x, not % x", told(c), got, formOf(c))
		}
		// It is laid behind what is there.
		w := &body.Writer{}
		w.Num(300)
		cmd.Put(w, c)
		cmd.Put(w, example())
		w.Truth(true)
		if got := w.Done(); !bytes.Equal(got, join(numbers(300), formOf(c), formOf(example()), []byte{1})) {
			t.Fatalf("Put(%s) among others = % x", told(c), got)
		}
		cmd.Put(nil, c)
	}
}

// checkNothingLaid asks whether Put of a command that may not be lays nothing, whatever is laid ahead of it and behind it.
func checkNothingLaid(t *testing.T, c api.Cmd) {
	t.Helper()
	if got := laid(c); len(got) != 0 {
		t.Fatalf("Put(%s) = % x", told(c), got)
	}
	w := &body.Writer{}
	w.Num(300)
	cmd.Put(w, c)
	if got := w.Done(); !bytes.Equal(got, []byte{0xac, 2}) {
		t.Fatalf("Put(%s) behind a number = % x", told(c), got)
	}
	cmd.Put(w, example())
	if got := w.Done(); !bytes.Equal(got, []byte{0xac, 2, 2, 1, 1, 2, 3, 1, 'a'}) {
		t.Fatalf("Put(%s) ahead of a command = % x", told(c), got)
	}
	cmd.Put(nil, c)
}

func TestPutOfWhatMayNotBe(t *testing.T) {
	for _, w := range bads() {
		checkNothingLaid(t, w.c)
	}
	for _, c := range tooLong() {
		checkNothingLaid(t, c)
	}
	for _, c := range crossed() {
		if errnoOf(c) != api.OK {
			checkNothingLaid(t, c)
		}
	}
}

// P9.2

// alikeView tells whether two views are the same, held against each other without the program.
func alikeView(v, w api.View) bool {
	return v.Id == w.Id && slices.Equal(v.Members, w.Members) && slices.Equal(v.Leaders, w.Leaders) &&
		slices.EqualFunc(v.Leaves, w.Leaves, slices.Equal[[]api.Pid])
}

// alike tells whether two commands are the same, held against each other without the program.
func alike(a, b api.Cmd) bool {
	return a.Kind == b.Kind && a.From == b.From && a.Num == b.Num && a.View == b.View && string(a.Data) == string(b.Data) && alikeView(a.V, b.V)
}

// checkReads asks whether Get reads c at a form's beginning, and leaves what is behind it.
func checkReads(t *testing.T, form []byte, c api.Cmd) {
	t.Helper()
	for _, behind := range [][]byte{nil, {0}, {1}, {0x80}, {255, 255, 255}, form} {
		r := body.Read(join(form, behind))
		if got := cmd.Get(r); !alike(got, c) || r.Err() != api.OK || r.Left() != len(behind) {
			t.Fatalf("Get of % x = %s, Err %d, Left %d", form, told(got), r.Err(), r.Left())
		}
	}
}

// checkStops asks whether Get is stopped by want with so many bytes left, whatever is ahead of it.
func checkStops(t *testing.T, why string, form []byte, want api.Errno, left int) {
	t.Helper()
	for _, ahead := range [][]byte{nil, {7}, {7, 7, 7}} {
		r := body.Read(join(ahead, form))
		for range ahead {
			r.Num(7)
		}
		if got := cmd.Get(r); !isZero(got) || r.Err() != want || r.Left() != left {
			t.Fatalf("%s: Get of % x = %s, Err %d, Left %d, not %d, %d", why, form, told(got), r.Err(), r.Left(), want, left)
		}
		// It stays so.
		if got := cmd.Get(r); !isZero(got) || r.Err() != want || r.Left() != left || r.Num(math.MaxUint64) != 0 || r.End() != want {
			t.Fatalf("%s: a second Get of % x = %s, Err %d, Left %d", why, form, told(got), r.Err(), r.Left())
		}
	}
}

func TestGet(t *testing.T) {
	for _, c := range goods() {
		checkReads(t, formOf(c), c)
	}
	r := body.Read(join(formOf(example()), formOf(nop()), formOf(change(three())), []byte{9}))
	first, second, third := cmd.Get(r), cmd.Get(r), cmd.Get(r)
	if !alike(first, example()) || !alike(second, nop()) || !alike(third, change(three())) || r.Num(9) != 9 || r.End() != api.OK {
		t.Fatalf("Get of three, one behind the other = %s, %s, %s, Err %d", told(first), told(second), told(third), r.Err())
	}
}

// TestGetOfEachBeginning: what is cut stops the reader at the thing that isn't whole.
func TestGetOfEachBeginning(t *testing.T) {
	for _, c := range []api.Cmd{nop(), example(), send(dan, 300, api.Ceiling, row(130)), change(alone(1, ann)), change(three()), change(great())} {
		form := formOf(c)
		for cut := range form {
			_, left, want := second(form[:cut])
			if want != api.ErrShort {
				t.Fatalf("the test's own reading of % x tells %d", form[:cut], want)
			}
			checkStops(t, "a beginning", form[:cut], api.ErrShort, left)
		}
	}
	form := []byte{2, 15, 255, 255, 255, 255, 15, 0xac, 2, 0x83, 1, 3, 'a', 'b', 'c'}
	for cut, left := range []int{0, 0, 1, 2, 3, 4, 5, 0, 1, 0, 1, 0, 1, 2, 3} {
		checkStops(t, "a beginning", form[:cut], api.ErrShort, left)
	}
	checkReads(t, form, send(dan, 300, 131, []byte("abc")))
}

func TestGetOfKinds(t *testing.T) {
	tail := formOf(example())[1:]
	for _, behind := range [][]byte{nil, {0}, {1}, {0x80}, tail, viewForm(three())} {
		checkStops(t, "no kind", join([]byte{0}, behind), api.ErrForm, len(behind))
		for _, kind := range []uint64{4, 5, 127, 128, 256 + 1, 1<<32 + 1, 1<<32 + 2, 1 << 62, 1<<63 + 2, math.MaxUint64} {
			form := join(numbers(kind), behind)
			checkStops(t, "a kind that is too great", form, api.ErrLong, len(form))
		}
		broken := join([]byte{0x82, 0}, behind)
		checkStops(t, "a kind in no short form", broken, api.ErrForm, len(broken))
		checkReads(t, join([]byte{1}, behind)[:1], nop())
	}
}

func TestGetOfNumbersThatAreTooGreat(t *testing.T) {
	for _, n := range []uint64{api.Ceiling + 1, api.Ceiling + 2, 1 << 63, 1<<63 + 1, math.MaxUint64} {
		for _, behind := range [][]byte{nil, {1}, {1, 0}, {0x81, 0}, {3, 1, 'a', 'b'}} {
			great := join(numbers(n), behind)
			checkStops(t, "Num", join([]byte{2, 1, 1}, great), api.ErrLong, len(great))
			checkStops(t, "View", join([]byte{2, 1, 1, 2}, great), api.ErrLong, len(great))
			checkStops(t, "V's Id", join([]byte{3}, great), api.ErrLong, len(great))
			// They are asked ahead of whether all may be.
			checkStops(t, "Num, of nobody", join([]byte{2, 0, 0}, great), api.ErrLong, len(great))
			checkStops(t, "View, with no Num", join([]byte{2, 1, 1, 0}, great), api.ErrLong, len(great))
		}
	}
	for _, n := range []uint64{api.Ceiling - 1, api.Ceiling} {
		checkReads(t, join([]byte{2, 1, 1}, numbers(n, 3, 0)), send(ann, n, 3, nil))
		checkReads(t, join([]byte{2, 1, 1, 3}, numbers(n, 0)), send(ann, 3, n, nil))
	}
}

func TestGetOfDataThatIsTooLong(t *testing.T) {
	head := []byte{2, 1, 1, 2, 3}
	for _, n := range []uint64{api.MaxData + 1, api.MaxData + 2, 255, 256, 1 << 16, 1 << 32, 1<<32 + 1, 1 << 63, math.MaxUint64} {
		for _, behind := range [][]byte{nil, row(1), row(api.MaxData), row(api.MaxData + 1), row(300)} {
			long := join(numbers(n), behind)
			checkStops(t, "Data", join(head, long), api.ErrLong, len(long))
			checkStops(t, "Data, of nobody", join([]byte{2, 0, 0, 0, 0}, long), api.ErrLong, len(long))
		}
	}
	for _, n := range []int{1, 2, 127, 128, api.MaxData - 1, api.MaxData} {
		form := join(head, numbers(uint64(n)), row(n))
		checkReads(t, form, send(ann, 2, 3, row(n)))
		checkStops(t, "Data that is cut", form[:len(form)-1], api.ErrShort, len(form)-1-len(head))
		checkStops(t, "Data that isn't there", form[:len(form)-n], api.ErrShort, len(form)-n-len(head))
	}
}

// TestGetOfAFromThatCantBeRead: layer 3's errors; all of the process is taken back.
func TestGetOfAFromThatCantBeRead(t *testing.T) {
	tail := []byte{2, 3, 0}
	for _, one := range []struct {
		from []byte
		want api.Errno
	}{
		{numbers(1<<16, 1), api.ErrForm}, {numbers(1, 1<<32), api.ErrForm}, {numbers(math.MaxUint64, 1), api.ErrForm},
		{[]byte{0x81, 0, 1}, api.ErrForm}, {[]byte{1, 0x81, 0}, api.ErrForm},
	} {
		form := join([]byte{2}, one.from, tail)
		checkStops(t, "From", form, one.want, len(form)-1)
	}
}

func TestGetOfTheFormOfACommandThatMayNotBe(t *testing.T) {
	forms := [][]byte{
		{2, 1, 1, 0, 1, 0}, {2, 1, 1, 1, 0, 0}, {2, 1, 1, 0, 0, 0}, {2, 1, 0, 1, 1, 0}, {2, 0, 0, 1, 1, 0}, {2, 16, 1, 1, 1, 0}, {2, 0, 0, 0, 0, 0},
		join([]byte{2}, numbers(math.MaxUint16, math.MaxUint32, api.Ceiling, api.Ceiling, 2), row(2)),
		join([]byte{2, 1, 0}, numbers(api.Ceiling, api.Ceiling, api.MaxData), row(api.MaxData)),
		{3, 0, 1, 1, 1, 1, 1, 0, 1, 0}, {3, 1, 1, 1, 0, 1, 1, 0, 1, 0}, {3, 1, 1, 1, 1, 0, 1, 0}, {3, 1, 1, 1, 1, 1, 1, 0, 0}, {3, 1, 0, 0, 0}, {3, 0, 0, 0, 0},
	}
	for _, form := range forms {
		// It is told behind all of the form, and ahead of what else is there.
		for _, behind := range [][]byte{nil, {0}, {0x81, 0}, {9, 9, 9}} {
			checkStops(t, "may not be", join(form, behind), api.ErrForm, len(behind))
		}
	}
	// What isn't whole is told first.
	for _, form := range forms[:7] {
		checkStops(t, "may not be, cut", form[:len(form)-1], api.ErrShort, 0)
	}
	for _, w := range bads() {
		if w.c.Kind == api.CmdSend && isZeroView(w.c.V) {
			_, left, want := second(formOf(w.c))
			checkStops(t, w.why, formOf(w.c), want, left)
		}
	}
}

// TestGetOfAViewThatCantBeRead: what stops layer 8 stops it, at the same place.
func TestGetOfAViewThatCantBeRead(t *testing.T) {
	for _, one := range []struct {
		v    []byte
		want api.Errno
		left int
	}{
		{[]byte{0x81, 0}, api.ErrForm, 2}, {[]byte{1, 25}, api.ErrLong, 1}, {[]byte{1, 1, 1, 0x81, 0}, api.ErrForm, 4}, {[]byte{1, 1, 1, 1, 25}, api.ErrLong, 1},
		{[]byte{1, 1, 1, 1, 1, 25}, api.ErrLong, 1}, {[]byte{1, 1, 1, 1, 1, 1, 1, 1, 0}, api.ErrLong, 3}, {[]byte{1, 1, 1, 1, 1, 1, 0, 25}, api.ErrLong, 1},
		{[]byte{1, 1, 1, 1, 1, 1, 0, 1, 1}, api.ErrLong, 1}, {[]byte{1, 0, 1, 1}, api.ErrLong, 0}, {[]byte{1, 1, 1}, api.ErrShort, 2},
	} {
		checkStops(t, "V", join([]byte{3}, one.v), one.want, one.left)
	}
}

func TestGetOfAReaderThatIsStopped(t *testing.T) {
	for _, c := range []api.Cmd{nop(), example(), change(three())} {
		form := formOf(c)
		for _, e := range []api.Errno{api.ErrArg, api.ErrShort, api.ErrForm, api.ErrDead, -1} {
			r := body.Read(form)
			r.Stop(e)
			if got := cmd.Get(r); !isZero(got) || r.Err() != e || r.Left() != len(form) {
				t.Fatalf("Get of a Reader that %d has stopped = %s, Err %d, Left %d", e, told(got), r.Err(), r.Left())
			}
		}
	}
	if got := cmd.Get(nil); !isZero(got) {
		t.Fatalf("Get of a nil Reader = %s", told(got))
	}
	var zero body.Reader
	if got := cmd.Get(&zero); !isZero(got) || zero.Err() != api.ErrShort {
		t.Fatalf("Get of a zero Reader = %s, Err %d", told(got), zero.Err())
	}
}

// A model reads a form as the chapters tell it, without package body: by places in a row.
type model struct {
	b  []byte
	at int
	e  api.Errno
}

// short answers the number at a place, and the place behind it.
func (m *model) short(at int) (n uint64, behind int, e api.Errno) {
	n, used := binary.Uvarint(m.b[at:])
	switch {
	case used == 0 && len(m.b)-at < 10:
		return 0, at, api.ErrShort
	case used <= 0 || used > 1 && m.b[at+used-1] == 0:
		return 0, at, api.ErrForm
	}
	return n, at + used, api.OK
}

// num reads a number up to most.
func (m *model) num(most uint64) uint64 {
	if m.e != api.OK {
		return 0
	}
	n, behind, e := m.short(m.at)
	if e == api.OK && n > most {
		e = api.ErrLong
	}
	if e != api.OK {
		m.e = e
		return 0
	}
	m.at = behind
	return n
}

// pid reads a process.
func (m *model) pid() api.Pid {
	if m.e != api.OK {
		return none
	}
	id, behind, e := m.short(m.at)
	var inc uint64
	if e == api.OK {
		inc, behind, e = m.short(behind)
	}
	if e == api.OK && (id > math.MaxUint16 || inc > math.MaxUint32) {
		e = api.ErrForm
	}
	if e != api.OK {
		m.e = e
		return none
	}
	m.at = behind
	return api.Pid{Id: uint16(id), Inc: uint32(inc)}
}

// data reads a message's bytes.
func (m *model) data() []byte {
	from := m.at
	n := int(m.num(200))
	if m.e == api.OK && m.at+n > len(m.b) {
		m.at, m.e = from, api.ErrShort
	}
	if m.e != api.OK {
		return nil
	}
	m.at += n
	return m.b[m.at-n : m.at]
}

// second answers what a second reading of the chapter reads in b: the command, how many bytes are left, what stopped it.
func second(b []byte) (c api.Cmd, left int, e api.Errno) {
	m := &model{b: b}
	c.Kind = int(m.num(3))
	if c.Kind == 2 {
		c.From, c.Num, c.View, c.Data = m.pid(), m.num(1<<62), m.num(1<<62), m.data()
	}
	if c.Kind == 3 {
		r := body.Read(b[m.at:])
		c.V = view.Get(r)
		m.at, m.e = len(b)-r.Left(), r.Err()
	}
	if m.e == api.OK && errnoOf(c) != api.OK {
		m.e = api.ErrForm
	}
	if m.e != api.OK {
		c = api.Cmd{}
	}
	return c, len(b) - m.at, m.e
}

// against asks whether Get reads of b what the second reading does, and answers what stopped it.
func against(t *testing.T, b []byte) api.Errno {
	t.Helper()
	want, left, e := second(b)
	r := body.Read(b)
	if got := cmd.Get(r); !alike(got, want) || r.Left() != left || r.Err() != e {
		t.Fatalf("Get of % x = %s, Left %d, Err %d, not %s, %d, %d", b, told(got), r.Left(), r.Err(), told(want), left, e)
	}
	return e
}

// checkTold asks whether each way of ending has come up often enough to tell something.
func checkTold(t *testing.T, times map[api.Errno]int) {
	t.Helper()
	for _, e := range []api.Errno{api.OK, api.ErrShort, api.ErrLong, api.ErrForm} {
		if times[e] < 100 {
			t.Fatalf("%d is told %d times: the test asks too little", e, times[e])
		}
	}
}

// TestGetOfFormsWithOneByteOfAnother: each other byte at each place, each byte left out, some bytes put in.
func TestGetOfFormsWithOneByteOfAnother(t *testing.T) {
	times := map[api.Errno]int{}
	for _, c := range []api.Cmd{nop(), example(), send(dan, 300, api.Ceiling, row(5)), send(cal, 1, 1, nil), send(bob, 1, 1, row(api.MaxData)), change(alone(1, ann)), change(three())} {
		form := formOf(c)
		for at := range form {
			for other := range 256 {
				turned := bytes.Clone(form)
				turned[at] = byte(other)
				times[against(t, turned)]++
			}
			times[against(t, slices.Delete(bytes.Clone(form), at, at+1))]++
			for _, more := range []byte{0, 1, 2, 3, 0x7f, 0x80, 0xff} {
				times[against(t, slices.Insert(bytes.Clone(form), at, more))]++
			}
		}
	}
	checkTold(t, times)
}

// TestGetOfAllShortRows: of all rows of up to seven of some bytes.
func TestGetOfAllShortRows(t *testing.T) {
	times := map[api.Errno]int{}
	rows := [][]byte{nil}
	for at := 0; at < len(rows); at++ {
		times[against(t, rows[at])]++
		if len(rows[at]) < 7 {
			for _, more := range []byte{0, 1, 2, 4, 16, 0x80} {
				rows = append(rows, append(bytes.Clone(rows[at]), more))
			}
		}
	}
	checkTold(t, times)
}

// TestGetOfAnyRows: of many rows that nearly are the form of a message.
func TestGetOfAnyRows(t *testing.T) {
	source := rand.New(rand.NewSource(9))
	pick := func(some ...uint64) uint64 { return some[source.Intn(len(some))] }
	times := map[api.Errno]int{}
	for range 100000 {
		b := numbers(pick(2, 2, 2, 2, 2, 3, 4, 0), pick(0, 1, 15, 15, 15, 16, 1<<16-1, 1<<16), pick(0, 1, 1, 1<<32-1, 1<<32-1, 1<<32))
		b = join(b, numbers(pick(0, 1, 2, 300, 1<<62, 1<<62, 1<<62+1), pick(0, 1, 2, 300, 1<<62, 1<<62, 1<<62+1)))
		n := pick(0, 1, 2, 199, 200, 201)
		b = join(b, numbers(n), row(max(0, int(n)+source.Intn(5)-2)))
		times[against(t, b[:len(b)-max(0, source.Intn(9)-7)])]++
	}
	checkTold(t, times)
}

// P9.3

// unlike answers commands of which no two are the same; of many two one field alone is another one.
func unlike() []api.Cmd {
	all := []api.Cmd{{}, {Kind: 1}, {Kind: 2}, {Kind: 3}, {Kind: 4}, {Kind: -1}, {Kind: math.MinInt}, {Kind: 1<<32 + 1}}
	for _, base := range []api.Cmd{{}, example(), change(three()), {Kind: -7, From: bob, Num: 9, View: 9, Data: row(300), V: alone(9, dan)}} {
		for _, turn := range []func(c *api.Cmd){
			func(c *api.Cmd) { c.Kind += 100 },
			func(c *api.Cmd) { c.From.Id += 100 },
			func(c *api.Cmd) { c.From.Inc += 100 },
			func(c *api.Cmd) { c.Num += 100 },
			func(c *api.Cmd) { c.Num += 1 << 32 },
			func(c *api.Cmd) { c.View += 100 },
			func(c *api.Cmd) { c.View += 1 << 32 },
			func(c *api.Cmd) { c.Data = append(bytes.Clone(c.Data), 0) },
			func(c *api.Cmd) { c.Data = append([]byte{1}, c.Data...) },
			func(c *api.Cmd) { c.Data = bytes.Repeat([]byte{200}, len(c.Data)+2) },
			func(c *api.Cmd) { c.V.Id += 100 },
			func(c *api.Cmd) { c.V.Members = append(slices.Clone(c.V.Members), none) },
			func(c *api.Cmd) { c.V.Leaves = append(slices.Clone(c.V.Leaves), nil) },
			func(c *api.Cmd) { c.V.Leaves = append([][]api.Pid{{bob}}, c.V.Leaves...) },
			func(c *api.Cmd) { c.V.Leaders = append(slices.Clone(c.V.Leaders), none) },
		} {
			c := base
			turn(&c)
			all = append(all, c)
		}
	}
	return append(all, example(), nopOf(bob), change(three()), change(alone(9, dan)))
}

// nopOf answers a nop with a From, which may not be.
func nopOf(p api.Pid) api.Cmd { return api.Cmd{Kind: api.CmdNop, From: p} }

func TestSame(t *testing.T) {
	for at, a := range unlike() {
		for other, b := range unlike() {
			if got := cmd.Same(a, b); got != (at == other) || got != alike(a, b) {
				t.Fatalf("Same(%s, %s) = %v", told(a), told(b), got)
			}
		}
	}
	all := slices.Concat(tooLong()[:4], unlike())
	for _, w := range bads() {
		all = append(all, w.c)
	}
	for at, c := range goods() {
		if at%7 == 0 {
			all = append(all, c)
		}
	}
	for _, a := range all {
		for _, b := range all {
			if got := cmd.Same(a, b); got != alike(a, b) {
				t.Fatalf("Same(%s, %s) = %v", told(a), told(b), got)
			}
		}
	}
	// Nil and no elements are both nothing.
	for _, c := range []api.Cmd{{}, nop(), send(ann, 2, 3, nil), {Kind: 9}} {
		empty := c
		empty.Data, empty.V = []byte{}, emptyView()
		if !cmd.Same(c, empty) || !cmd.Same(empty, c) {
			t.Fatalf("Same(%s) tells a list without elements from nil", told(c))
		}
	}
}

func TestWhatIsLaidIsReadAsItWas(t *testing.T) {
	r := body.Read(laid(goods()...))
	for _, c := range goods() {
		checkReads(t, laid(c), c)
		if got := cmd.Get(r); !alike(got, c) || !cmd.Same(got, c) {
			t.Fatalf("%s is read as %s, Err %d", told(c), told(got), r.Err())
		}
	}
	if r.End() != api.OK {
		t.Fatalf("End = %d", r.End())
	}
}

// deep answers c in new memory, made without the program.
func deep(c api.Cmd) api.Cmd {
	c.Data = slices.Clone(c.Data)
	v := api.View{Id: c.V.Id, Members: slices.Clone(c.V.Members), Leaders: slices.Clone(c.V.Leaders)}
	for _, leaf := range c.V.Leaves {
		v.Leaves = append(v.Leaves, slices.Clone(leaf))
	}
	c.V = v
	return c
}

// spoil turns all that a command's lists hold, and what is in the room behind.
func spoil(c api.Cmd) {
	for at := range c.Data[:cap(c.Data)] {
		c.Data[:cap(c.Data)][at] ^= 0xff
	}
	leaves := c.V.Leaves[:cap(c.V.Leaves)]
	for _, l := range append(slices.Clone(leaves), c.V.Members, c.V.Leaders) {
		for at := range l[:cap(l)] {
			l[:cap(l)][at] = api.Pid{Id: 99, Inc: 99}
		}
	}
	for at := range leaves {
		leaves[at] = []api.Pid{{Id: 98, Inc: 98}}
	}
}

// checkApart asks whether no list of a command shares memory with one of another one, nor with another one of its own.
func checkApart(t *testing.T, what string, all ...api.Cmd) {
	t.Helper()
	mark := func(at int) api.Pid { return api.Pid{Id: 97, Inc: uint32(at)} }
	var lists [][]api.Pid
	for at, c := range all {
		lists = append(append(lists, c.V.Members, c.V.Leaders), c.V.Leaves...)
		data := c.Data[:cap(c.Data)]
		for place := range data {
			data[place] = byte(at)
		}
	}
	for at, l := range lists {
		for place := range l[:cap(l)] {
			l[:cap(l)][place] = mark(at)
		}
	}
	for at, l := range lists {
		for _, p := range l[:cap(l)] {
			if p != mark(at) {
				t.Fatalf("%s: two lists share memory", what)
			}
		}
	}
	for at, c := range all {
		for _, b := range c.Data[:cap(c.Data)] {
			if b != byte(at) {
				t.Fatalf("%s: two Data share memory", what)
			}
		}
		spoil(c)
		for _, other := range all[:at] {
			if len(other.V.Leaves) > 0 && (len(other.V.Leaves[0]) != 1 || other.V.Leaves[0][0].Id != 98) {
				t.Fatalf("%s: two lists of leaves share memory", what)
			}
		}
	}
}

func TestCopy(t *testing.T) {
	all := slices.Concat(goods(), unlike(), tooLong())
	for _, w := range bads() {
		all = append(all, w.c)
	}
	for _, c := range all {
		want := deep(c)
		first, other := cmd.Copy(c), cmd.Copy(c)
		if !alike(first, want) || !cmd.Same(first, c) || !alike(c, want) {
			t.Fatalf("Copy(%s) = %s", told(want), told(first))
		}
		spoil(first)
		if !alike(other, want) {
			t.Fatalf("two copies of %s share memory", told(want))
		}
		if !alike(c, want) {
			t.Fatalf("a copy of %s shares memory with it", told(want))
		}
		spoil(c)
		if !alike(other, want) {
			t.Fatalf("%s shares memory with its copy", told(want))
		}
		checkApart(t, "Copy", cmd.Copy(want), cmd.Copy(want), want)
	}
}

// TestCopyOfSharedLists: the lists of one are the same memory, also behind their ends; those of its copy aren't.
func TestCopyOfSharedLists(t *testing.T) {
	l, data := []api.Pid{ann, bob, cal, dan}, row(8)
	c := api.Cmd{Kind: 9, Data: data[:3], V: api.View{Id: 1, Members: l[:3], Leaves: [][]api.Pid{l[:2], l[1:3], l}, Leaders: l[:1]}}
	got := cmd.Copy(c)
	if !alike(got, c) {
		t.Fatalf("Copy(%s) = %s", told(c), told(got))
	}
	checkApart(t, "Copy of one whose lists share memory", got, cmd.Copy(c))
	if !slices.Equal(l, []api.Pid{ann, bob, cal, dan}) || !bytes.Equal(data, row(8)) {
		t.Fatal("a copy shares memory with what was copied, or with the room behind it")
	}
}

func TestGetAnswersNewMemory(t *testing.T) {
	for _, c := range []api.Cmd{nop(), example(), send(bob, 1, 1, row(api.MaxData)), change(three()), change(great())} {
		form := join(formOf(c), formOf(c))
		ahead := bytes.Clone(form)
		r := body.Read(form)
		first, second := cmd.Get(r), cmd.Get(r)
		checkApart(t, "Get", first, second, cmd.Get(body.Read(form)))
		if !bytes.Equal(form, ahead) {
			t.Fatal("what was read is changed")
		}
		// What is answered is no piece of what the reader still has.
		r = body.Read(form)
		spoil(cmd.Get(r))
		if got := cmd.Get(r); !alike(got, c) || r.End() != api.OK {
			t.Fatalf("behind a command that was changed, %s is read as %s", told(c), told(got))
		}
	}
}

// P9.4

// textOf answers c's text, made without package cmd.
func textOf(c api.Cmd) string {
	switch {
	case errnoOf(c) != api.OK:
		return "?"
	case c.Kind == 1:
		return "nop"
	case c.Kind == 2:
		return fmt.Sprintf("send %d.%d %d %d x%x", c.From.Id, c.From.Inc, c.Num, c.View, c.Data)
	}
	text, _ := view.Print(c.V)
	return "view " + text
}

func TestText(t *testing.T) {
	for _, one := range []struct {
		c    api.Cmd
		want string
	}{
		{nop(), "nop"},
		{example(), "send 1.1 2 3 x61"},
		{send(cal, 1, 1, nil), "send 0.1 1 1 x"},
		{send(cal, 1, 1, []byte{}), "send 0.1 1 1 x"},
		{send(dan, api.Ceiling, api.Ceiling-1, []byte{0, 0x0f, 0xf0, 0xab, 0xff}), "send 15.4294967295 4611686018427387904 4611686018427387903 x000ff0abff"},
		{send(bob, 10, 20, bytes.Repeat([]byte{1}, api.MaxData)), "send 2.7 10 20 x" + strings.Repeat("01", api.MaxData)},
		{change(alone(1, ann)), "view 1 1.1/0*"},
		{change(three()), "view 300 1.1/0* 15.4294967295/1* 0.1/0"},
		{api.Cmd{}, "?"},
		{send(bob, 10, 20, bytes.Repeat([]byte{1}, api.MaxData+1)), "?"},
		{change(api.View{}), "?"},
		{nopOf(ann), "?"},
	} {
		if got := cmd.Text(one.c); got != one.want {
			t.Errorf("Text(%s) = %q, not %q", told(one.c), got, one.want)
		}
	}
	for _, c := range slices.Concat(goods(), crossed(), unlike()) {
		if got := cmd.Text(c); got != textOf(c) {
			t.Fatalf("Text(%s) = %q, not %q", told(c), got, textOf(c))
		}
	}
}

func TestTextOfWhatMayNotBe(t *testing.T) {
	for _, w := range bads() {
		if got := cmd.Text(w.c); got != "?" {
			t.Errorf("%s: Text(%s) = %q", w.why, told(w.c), got)
		}
	}
	for _, c := range tooLong() {
		if got := cmd.Text(c); got != "?" {
			t.Errorf("Text of %d bytes of Data = %q", len(c.Data), got[:min(len(got), 100)])
		}
	}
}

// P1, in layer 9

// roomy answers c with lists behind whose ends there is room that holds other things.
func roomy(c api.Cmd) api.Cmd {
	widen := func(l []api.Pid) []api.Pid { return slices.Concat(l, []api.Pid{dan, none, bob})[:len(l)] }
	c = deep(c)
	c.Data = join(c.Data, row(api.MaxData+9))[:len(c.Data)]
	c.V.Members, c.V.Leaders = widen(c.V.Members), widen(c.V.Leaders)
	for at, leaf := range c.V.Leaves {
		c.V.Leaves[at] = widen(leaf)
	}
	c.V.Leaves = slices.Concat(c.V.Leaves, [][]api.Pid{{bob}, nil})[:len(c.V.Leaves)]
	return c
}

// all answers all that c's lists hold, with the room behind them.
func all(c api.Cmd) string {
	leaves := c.V.Leaves[:cap(c.V.Leaves)]
	s := fmt.Sprint(c.Data[:cap(c.Data)], c.V.Members[:cap(c.V.Members)], c.V.Leaders[:cap(c.V.Leaders)], len(leaves))
	for _, leaf := range leaves {
		s += fmt.Sprint(leaf[:cap(leaf)], len(leaf))
	}
	return s
}

func TestNothingHandedIsChangedAndNoRoomIsRead(t *testing.T) {
	some := slices.Concat(goods()[:200], unlike(), tooLong()[:4], []api.Cmd{change(three()), change(great())})
	for _, w := range bads() {
		some = append(some, w.c)
	}
	for _, c := range some {
		wide := roomy(c)
		before := all(wide)
		// Twice, as a call that keeps something tells another thing at the second time.
		for range 2 {
			if cmd.Check(wide) != errnoOf(c) || cmd.Text(wide) != textOf(c) || !cmd.Same(wide, c) || !alike(cmd.Copy(wide), c) {
				t.Fatalf("of %s with room behind it something else is told", told(c))
			}
			form := []byte(nil)
			if errnoOf(c) == api.OK {
				form = formOf(c)
			}
			if got := laid(wide); !bytes.Equal(got, form) {
				t.Fatalf("Put(%s) with room behind it = % x", told(c), got)
			}
		}
		if all(wide) != before {
			t.Fatalf("%s, or the room behind it, is changed", told(c))
		}
	}
}

// TestPutKeepsNothingHanded: what a command's lists hold later isn't in what was laid.
func TestPutKeepsNothingHanded(t *testing.T) {
	for _, c := range []api.Cmd{example(), send(bob, 1, 1, row(api.MaxData)), change(three())} {
		w := &body.Writer{}
		handed := deep(c)
		cmd.Put(w, handed)
		spoil(handed)
		if got := w.Done(); !bytes.Equal(got, formOf(c)) {
			t.Fatalf("Put(%s) has kept what it was handed: % x", told(c), got)
		}
	}
}

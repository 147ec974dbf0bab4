package body_test

import (
	"bytes"
	"encoding/binary"
	"math"
	"math/rand"
	"reflect"
	"slices"
	"testing"

	"choragus/api"
	"choragus/body"
)

var (
	none     = api.Pid{}
	p        = api.Pid{Id: 1, Inc: 2}
	q        = api.Pid{Id: 3, Inc: 4}
	greatest = api.Pid{Id: math.MaxUint16, Inc: math.MaxUint32}
)

// numbers answers the short forms of all, one behind the other.
func numbers(all ...uint64) []byte {
	var b []byte
	for _, n := range all {
		b = binary.AppendUvarint(b, n)
	}
	return b
}

// row has n bytes, of all values.
func row(n int) []byte {
	b := make([]byte, n)
	for at := range b {
		b[at] = byte(at*167 + at/256*13 + 5)
	}
	return b
}

// join answers all parts in new memory, one behind the other.
func join(parts ...[]byte) []byte { return slices.Concat(parts...) }

// A thing is what is laid and read: its form, made without package body, and how a Writer lays and a Reader reads it.
type thing struct {
	name string
	form []byte
	want any
	lay  func(w *body.Writer)
	read func(r *body.Reader) any
}

// bytesOf answers what a Reader's Bytes answers; nil and no elements are both nothing.
func bytesOf(b []byte) any { return string(b) }

// pidsOf answers what a Reader's Pids answers; nil and no elements are both nothing.
func pidsOf(l []api.Pid) any { return append([]api.Pid(nil), l...) }

func number(n uint64) thing {
	return thing{"Num", numbers(n), n,
		func(w *body.Writer) { w.Num(n) },
		func(r *body.Reader) any { return r.Num(n) }}
}

func truth(b bool, form byte) thing {
	return thing{"Truth", []byte{form}, b,
		func(w *body.Writer) { w.Truth(b) },
		func(r *body.Reader) any { return r.Truth() }}
}

func process(p api.Pid) thing {
	return thing{"Pid", numbers(uint64(p.Id), uint64(p.Inc)), p,
		func(w *body.Writer) { w.Pid(p) },
		func(r *body.Reader) any { return r.Pid() }}
}

func ballot(round uint32, who api.Pid) thing {
	b := api.Ballot{Round: round, Who: who}
	return thing{"Ballot", numbers(uint64(round), uint64(who.Id), uint64(who.Inc)), b,
		func(w *body.Writer) { w.Ballot(b) },
		func(r *body.Reader) any { return r.Ballot() }}
}

func someBytes(b []byte) thing {
	return thing{"Bytes", join(numbers(uint64(len(b))), b), bytesOf(b),
		func(w *body.Writer) { w.Bytes(b) },
		func(r *body.Reader) any { return bytesOf(r.Bytes(len(b))) }}
}

func processes(l ...api.Pid) thing {
	form := numbers(uint64(len(l)))
	for _, p := range l {
		form = join(form, numbers(uint64(p.Id), uint64(p.Inc)))
	}
	return thing{"Pids", form, pidsOf(l),
		func(w *body.Writer) { w.Pids(l) },
		func(r *body.Reader) any { return pidsOf(r.Pids(len(l))) }}
}

// things answers things of all kinds, the least and the greatest ones among them; each is read with the least most that allows it.
func things() []thing {
	all := []thing{truth(false, 0), truth(true, 1)}
	for _, n := range []uint64{0, 1, 127, 128, 300, 1<<14 - 1, 1 << 14, math.MaxUint32, 1 << 32, api.Ceiling, 1<<63 - 1, 1 << 63, math.MaxUint64 - 1, math.MaxUint64} {
		all = append(all, number(n))
	}
	pids := []api.Pid{none, p, q, greatest, {Id: 127, Inc: 128}, {Id: 128, Inc: 127}, {Id: api.MaxProcs, Inc: 1}, {Id: 5, Inc: 1 << 31}}
	for _, one := range pids {
		all = append(all, process(one), processes(one))
		for _, round := range []uint32{0, 9, 127, 128, 1 << 31, math.MaxUint32 - 1, math.MaxUint32} {
			all = append(all, ballot(round, one))
		}
	}
	for _, n := range []int{1, 2, 126, 127, 128, api.MaxData, api.MaxBody, api.MaxBody + 1, 20000} {
		all = append(all, someBytes(row(n)))
	}
	return append(all, someBytes(nil), someBytes([]byte{}), someBytes([]byte("ab")), someBytes(make([]byte, 5)),
		processes(), processes(p, q), processes(q, p), processes(q, q, none, q), processes(pids...),
		processes(slices.Repeat(pids, 16)...), processes(slices.Repeat([]api.Pid{greatest}, 1000)...))
}

// laid answers the bytes of a Writer that has laid all of l.
func laid(l ...thing) []byte {
	w := &body.Writer{}
	for _, one := range l {
		one.lay(w)
	}
	return w.Done()
}

// P7.1

func TestExample(t *testing.T) {
	w := &body.Writer{}
	w.Num(300)
	w.Truth(true)
	if got := w.Done(); !bytes.Equal(got, []byte{0xac, 2, 1}) {
		t.Fatalf("Num(300), Truth(true): % x", got)
	}
}

func TestForms(t *testing.T) {
	for _, c := range []struct {
		one  thing
		want []byte
	}{
		{number(0), []byte{0}},
		{number(127), []byte{0x7f}},
		{number(128), []byte{0x80, 1}},
		{number(math.MaxUint64), []byte{255, 255, 255, 255, 255, 255, 255, 255, 255, 1}},
		{truth(false, 0), []byte{0}},
		{truth(true, 1), []byte{1}},
		{process(none), []byte{0, 0}},
		{process(q), []byte{3, 4}},
		{process(greatest), []byte{255, 255, 3, 255, 255, 255, 255, 15}},
		{ballot(9, q), []byte{9, 3, 4}},
		{ballot(math.MaxUint32, p), []byte{255, 255, 255, 255, 15, 1, 2}},
		{someBytes(nil), []byte{0}},
		{someBytes([]byte{}), []byte{0}},
		{someBytes([]byte("ab")), []byte{2, 'a', 'b'}},
		{processes(), []byte{0}},
		{processes(p, q), []byte{2, 1, 2, 3, 4}},
		{processes(q, p, q), []byte{3, 3, 4, 1, 2, 3, 4}},
	} {
		if got := laid(c.one); !bytes.Equal(got, c.want) {
			t.Errorf("%s of %v: % x, not % x", c.one.name, c.one.want, got, c.want)
		}
	}
}

func TestLaidOneBehindTheOther(t *testing.T) {
	all := things()
	w, want := &body.Writer{}, []byte(nil)
	for _, first := range all {
		if got := laid(first); !bytes.Equal(got, first.form) {
			t.Fatalf("%s of %v: % x, not % x", first.name, first.want, got, first.form)
		}
		for _, second := range all {
			if got := laid(first, second); !bytes.Equal(got, join(first.form, second.form)) {
				t.Fatalf("%s of %v, %s of %v: % x", first.name, first.want, second.name, second.want, got)
			}
		}
		// Done ends nothing: the next thing is laid behind this one.
		first.lay(w)
		want = join(want, first.form)
		if got := w.Done(); !bytes.Equal(got, want) {
			t.Fatalf("%s of %v isn't laid behind all the others", first.name, first.want)
		}
	}
}

func TestDoneOfNothingLaid(t *testing.T) {
	var zero body.Writer
	for range 2 {
		if got := zero.Done(); len(got) != 0 {
			t.Fatalf("nothing is laid: % x", got)
		}
	}
	zero.Num(7)
	if got := zero.Done(); !bytes.Equal(got, []byte{7}) {
		t.Fatalf("behind a Done of nothing, Num(7): % x", got)
	}
}

func TestDoneIsNewMemory(t *testing.T) {
	w := &body.Writer{}
	w.Bytes([]byte("abc"))
	want := []byte{3, 'a', 'b', 'c'}
	first, second := w.Done(), w.Done()
	clear(first)
	_ = append(first, 9, 9, 9)
	if !bytes.Equal(second, want) {
		t.Fatalf("two answers share memory: % x", second)
	}
	if got := w.Done(); !bytes.Equal(got, want) {
		t.Fatalf("an answer is the Writer's own memory: % x", got)
	}
	w.Num(5)
	_ = append(second, 9, 9, 9)
	if got := w.Done(); !bytes.Equal(got, join(want, []byte{5})) {
		t.Fatalf("room behind an answer is the Writer's own memory: % x", got)
	}
	if !bytes.Equal(second, want) {
		t.Fatalf("what is laid later is in an earlier answer: % x", second)
	}
}

func TestWriterKeepsAndChangesNothingHanded(t *testing.T) {
	room, roomOfPids := row(16), slices.Repeat([]api.Pid{p, q}, 4)
	w := &body.Writer{}
	w.Bytes(room[:2:16])
	w.Pids(roomOfPids[:2:8])
	w.Bytes(room[:0:16])
	w.Num(9)
	if !bytes.Equal(room, row(16)) || !slices.Equal(roomOfPids, slices.Repeat([]api.Pid{p, q}, 4)) {
		t.Fatal("a Writer has changed what it was handed")
	}
	clear(room)
	clear(roomOfPids)
	want := join([]byte{2}, row(2), []byte{2, 1, 2, 3, 4, 0, 9})
	if got := w.Done(); !bytes.Equal(got, want) {
		t.Fatalf("a Writer has kept what it was handed: % x", got)
	}
}

func TestWritersAreApart(t *testing.T) {
	v, w := &body.Writer{}, &body.Writer{}
	for n := range uint64(100) {
		v.Num(n)
		w.Num(100 + n%20)
	}
	for n := range 100 {
		if v.Done()[n] != byte(n) || w.Done()[n] != byte(100+n%20) {
			t.Fatal("two Writers share what they lay")
		}
	}
}

func TestNilWriter(t *testing.T) {
	var w *body.Writer
	for _, one := range things() {
		one.lay(w)
		if got := w.Done(); len(got) != 0 {
			t.Fatalf("a nil Writer has laid %s: % x", one.name, got)
		}
	}
}

// P7.2, P7.3

// A call is a call on a Reader: what it answers, and the zero value of that.
type call struct {
	name string
	read func(r *body.Reader) any
	zero any
}

func num(most uint64) call {
	return call{"Num", func(r *body.Reader) any { return r.Num(most) }, uint64(0)}
}

func readTruth() call {
	return call{"Truth", func(r *body.Reader) any { return r.Truth() }, false}
}

func readPid() call {
	return call{"Pid", func(r *body.Reader) any { return r.Pid() }, none}
}

func readBallot() call {
	return call{"Ballot", func(r *body.Reader) any { return r.Ballot() }, api.Ballot{}}
}

func readBytes(most int) call {
	return call{"Bytes", func(r *body.Reader) any { return bytesOf(r.Bytes(most)) }, bytesOf(nil)}
}

func readPids(most int) call {
	return call{"Pids", func(r *body.Reader) any { return pidsOf(r.Pids(most)) }, pidsOf(nil)}
}

// generous answers calls that take all that is in form, and some that take the least.
func generous() []call {
	return []call{num(math.MaxUint64), readTruth(), readPid(), readBallot(), readBytes(math.MaxInt), readPids(math.MaxInt),
		num(0), readBytes(0), readPids(0), readBytes(-1), readPids(math.MinInt)}
}

// check asks what Left, Err and End tell of a Reader.
func check(t *testing.T, r *body.Reader, left int, e api.Errno) {
	t.Helper()
	end := e
	if e == api.OK && left > 0 {
		end = api.ErrForm
	}
	if r.Left() != left || r.Err() != e || r.End() != end {
		t.Fatalf("Left %d, Err %d, End %d, not %d, %d, %d", r.Left(), r.Err(), r.End(), left, e, end)
	}
}

// checkStopped asks whether e has stopped r with so many bytes left, and whether it stays so, whatever is called.
func checkStopped(t *testing.T, r *body.Reader, left int, e api.Errno) {
	t.Helper()
	check(t, r, left, e)
	for range 2 {
		for _, c := range generous() {
			if got := c.read(r); !reflect.DeepEqual(got, c.zero) {
				t.Fatalf("a Reader that %d has stopped: %s answers %v", e, c.name, got)
			}
			check(t, r, left, e)
		}
		for _, other := range []api.Errno{api.OK, api.ErrDead, api.ErrArg, api.ErrShort, api.ErrLong, api.ErrForm, -1} {
			r.Stop(other)
			check(t, r, left, e)
		}
	}
}

// checkStops asks whether c is stopped by e at b's beginning, whatever is ahead of it and behind it.
func checkStops(t *testing.T, b []byte, c call, e api.Errno) {
	t.Helper()
	for _, ahead := range []thing{number(0), number(300), processes(p, q)} {
		r := body.Read(join(ahead.form, b))
		ahead.read(r)
		check(t, r, len(b), api.OK)
		if got := c.read(r); !reflect.DeepEqual(got, c.zero) || r.Err() != e {
			t.Fatalf("%s of % x = %v, Err %d, not %d", c.name, b, got, r.Err(), e)
		}
		checkStopped(t, r, len(b), e)
	}
}

// checkReads asks whether c reads want at b's beginning, and leaves just what is behind it.
func checkReads(t *testing.T, b []byte, c call, want any) {
	t.Helper()
	for _, behind := range [][]byte{nil, {0}, {1}, {0x80}, {255, 255, 255}, b} {
		r := body.Read(join(b, behind))
		if got := c.read(r); !reflect.DeepEqual(got, want) {
			t.Fatalf("%s of % x = %v, Err %d, not %v", c.name, b, got, r.Err(), want)
		}
		check(t, r, len(behind), api.OK)
	}
}

var (
	broken  = []byte{0x81, 0}                                                     // no short form
	greater = []byte{0x80, 0x80, 0x80, 0x80, 0x80, 0x80, 0x80, 0x80, 0x80, 2}     // 2^64
	endless = []byte{255, 255, 255, 255, 255, 255, 255, 255, 255, 255, 255, 1, 1} // more than ten bytes
)

func TestReadNum(t *testing.T) {
	for _, n := range []uint64{0, 1, 127, 128, 300, math.MaxUint32, 1 << 32, api.Ceiling, 1 << 63, math.MaxUint64 - 1, math.MaxUint64} {
		checkReads(t, numbers(n), num(n), n)
		checkReads(t, numbers(n), num(math.MaxUint64), n)
		if n < math.MaxUint64 {
			checkReads(t, numbers(n), num(n+1), n)
		}
		if n > 0 {
			checkStops(t, numbers(n), num(n-1), api.ErrLong)
			checkStops(t, numbers(n, 1), num(n-1), api.ErrLong)
			checkStops(t, numbers(n, 1), num(0), api.ErrLong)
		}
	}
}

func TestReadNumOfNone(t *testing.T) {
	for _, most := range []uint64{0, 1, 300, math.MaxUint64} {
		for _, b := range [][]byte{nil, {0x80}, {0xff}, {0xac, 0xac}, endless[:9]} {
			checkStops(t, b, num(most), api.ErrShort)
		}
		for _, b := range [][]byte{broken, {0x80, 0}, {0x80, 0, 1, 1}, {0x81, 0x80, 0}, greater, endless, endless[:10]} {
			checkStops(t, b, num(most), api.ErrForm)
		}
	}
}

func TestReadTruth(t *testing.T) {
	checkReads(t, []byte{0}, readTruth(), false)
	checkReads(t, []byte{1}, readTruth(), true)
	checkStops(t, nil, readTruth(), api.ErrShort)
	for c := 2; c < 256; c++ {
		for _, behind := range [][]byte{nil, {0}, {1}, {1, 1, 1}} {
			checkStops(t, join([]byte{byte(c)}, behind), readTruth(), api.ErrForm)
		}
	}
}

// noProcesses answers rows at whose beginning no process stands, and layer 3's error.
func noProcesses() map[string]api.Errno {
	all := map[string]api.Errno{}
	for _, b := range [][]byte{nil, {1}, {0x80}, {1, 0x80}, {255, 255, 3}, {255, 255, 3, 255, 255, 255, 255}, numbers(1 << 16), join(numbers(math.MaxUint64), []byte{0x80})} {
		all[string(b)] = api.ErrShort
	}
	for _, b := range [][]byte{broken, join([]byte{1}, broken), numbers(1<<16, 1), numbers(1, 1<<32), numbers(1<<16, 1<<32), numbers(math.MaxUint64, 0), greater, join([]byte{1}, greater), endless} {
		all[string(b)] = api.ErrForm
	}
	return all
}

func TestReadPid(t *testing.T) {
	for _, one := range []api.Pid{none, p, q, greatest, {Id: 1}, {Inc: 1}, {Id: 127, Inc: 128}, {Id: 128, Inc: 127}, {Id: api.MaxProcs, Inc: 1}} {
		checkReads(t, numbers(uint64(one.Id), uint64(one.Inc)), readPid(), one)
	}
	for b, e := range noProcesses() {
		checkStops(t, []byte(b), readPid(), e)
	}
}

func TestReadBallot(t *testing.T) {
	for _, round := range []uint32{0, 1, 9, 127, 128, 1 << 31, math.MaxUint32 - 1, math.MaxUint32} {
		for _, who := range []api.Pid{none, p, greatest} {
			b := numbers(uint64(round), uint64(who.Id), uint64(who.Inc))
			checkReads(t, b, readBallot(), api.Ballot{Round: round, Who: who})
		}
		// What stops it at Who takes the Round back too.
		for b, e := range noProcesses() {
			checkStops(t, join(numbers(uint64(round)), []byte(b)), readBallot(), e)
		}
	}
	for _, b := range [][]byte{nil, {0x80}, endless[:9]} {
		checkStops(t, b, readBallot(), api.ErrShort)
	}
	for _, b := range [][]byte{broken, join(broken, []byte{1, 1}), join(greater, []byte{1, 1}), endless} {
		checkStops(t, b, readBallot(), api.ErrForm)
	}
}

func TestReadBallotOfARoundThatIsTooGreat(t *testing.T) {
	for _, round := range []uint64{1 << 32, 1<<32 + 1, 1<<32 + 9, 1 << 33, 1 << 40, api.Ceiling, 1 << 63, math.MaxUint64} {
		checkStops(t, numbers(round, 3, 4), readBallot(), api.ErrLong)
		checkStops(t, numbers(round, 3, 4, 5, 6), readBallot(), api.ErrLong)
		// It is told ahead of reading Who.
		for b := range noProcesses() {
			checkStops(t, join(numbers(round), []byte(b)), readBallot(), api.ErrLong)
		}
	}
}

var belowNothing = []int{-1, -2, -300, math.MinInt32, math.MinInt + 1, math.MinInt}

func TestReadBytes(t *testing.T) {
	for _, n := range []int{0, 1, 2, 127, 128, api.MaxData, api.MaxBody, api.MaxBody + 1, 20000} {
		b := join(numbers(uint64(n)), row(n))
		for _, most := range []int{n, n + 1, 2*n + 5, math.MaxInt} {
			checkReads(t, b, readBytes(most), bytesOf(row(n)))
		}
		// One more than most, and any number of bytes more, be they there or not.
		for _, most := range append([]int{n - 1, n / 2, 0}, belowNothing...) {
			if n > max(most, 0) {
				checkStops(t, b, readBytes(most), api.ErrLong)
				checkStops(t, join(b, b), readBytes(most), api.ErrLong)
				checkStops(t, numbers(uint64(n)), readBytes(most), api.ErrLong)
			}
		}
		// Too few.
		for _, cut := range []int{1, 2, n / 2, n} {
			if 0 < cut && cut <= n {
				checkStops(t, b[:len(b)-cut], readBytes(n), api.ErrShort)
				checkStops(t, b[:len(b)-cut], readBytes(math.MaxInt), api.ErrShort)
			}
		}
	}
}

func TestReadNoBytesAndNoProcesses(t *testing.T) {
	for _, most := range append([]int{0, 1, 300, math.MaxInt}, belowNothing...) {
		checkReads(t, []byte{0}, readBytes(most), bytesOf(nil))
		checkReads(t, []byte{0}, readPids(most), pidsOf(nil))
	}
}

// TestReadOfHowManyThatAreWrong: the number of bytes, or of processes, is what stops the reader, whatever is behind it.
func TestReadOfHowManyThatAreWrong(t *testing.T) {
	for _, c := range []struct {
		b []byte
		e api.Errno
	}{
		{nil, api.ErrShort}, {[]byte{0x80}, api.ErrShort}, {endless[:9], api.ErrShort},
		{broken, api.ErrForm}, {[]byte{0x80, 0, 1, 1}, api.ErrForm}, {greater, api.ErrForm}, {join(greater, row(50)), api.ErrForm}, {endless, api.ErrForm},
	} {
		for _, most := range append([]int{0, 1, math.MaxInt}, belowNothing...) {
			checkStops(t, c.b, readBytes(most), c.e)
			checkStops(t, c.b, readPids(most), c.e)
		}
	}
	for _, n := range []uint64{3, 4, 1 << 16, 1 << 32, 1<<32 + 1, 1 << 62, 1<<63 - 1, 1 << 63, 1<<63 + 1, math.MaxUint64} {
		b := numbers(n, 1, 2)
		for _, most := range append([]int{0, 1, 2}, belowNothing...) {
			checkStops(t, b, readBytes(most), api.ErrLong)
			checkStops(t, b, readPids(most), api.ErrLong)
		}
		e := api.ErrShort
		if n > math.MaxInt {
			e = api.ErrLong
		}
		checkStops(t, b, readBytes(math.MaxInt), e)
		checkStops(t, b, readPids(math.MaxInt), e)
	}
}

func TestReadPids(t *testing.T) {
	mixed := []api.Pid{q, p, q, none, greatest, {Id: 300, Inc: 300}}
	for _, n := range []int{1, 2, 5, 24, 25, 127, 128, 1000} {
		l := slices.Repeat(mixed, n)[:n]
		b := processes(l...).form
		for _, most := range []int{n, n + 1, 2 * n, math.MaxInt} {
			checkReads(t, b, readPids(most), pidsOf(l))
		}
		for _, most := range append([]int{n - 1, n / 2, 0}, belowNothing...) {
			checkStops(t, b, readPids(most), api.ErrLong)
			checkStops(t, numbers(uint64(n)), readPids(most), api.ErrLong)
			// They are told ahead of the processes.
			checkStops(t, join(numbers(uint64(n)), broken), readPids(most), api.ErrLong)
		}
		for _, cut := range []int{1, 2, len(b) / 2, len(b) - len(numbers(uint64(n)))} {
			checkStops(t, b[:len(b)-cut], readPids(n), api.ErrShort)
			checkStops(t, b[:len(b)-cut], readPids(math.MaxInt), api.ErrShort)
		}
	}
}

// TestReadPidsOfWrongOnes: the first process that can't be read stops it, and all are taken back.
func TestReadPidsOfWrongOnes(t *testing.T) {
	for b, e := range noProcesses() {
		for good := range 4 {
			ahead := slices.Repeat([]byte{1, 2}, good)
			for _, more := range []uint64{1, 2, 1 << 20, 1 << 62} {
				all := join(numbers(uint64(good)+more), ahead, []byte(b))
				checkStops(t, all, readPids(math.MaxInt), e)
				checkStops(t, all, readPids(good+int(more)), e)
			}
		}
	}
}

func TestReadOfNothing(t *testing.T) {
	for _, b := range [][]byte{nil, {}, row(9)[:0]} {
		check(t, body.Read(b), 0, api.OK)
		for _, c := range generous() {
			r := body.Read(b)
			if got := c.read(r); !reflect.DeepEqual(got, c.zero) {
				t.Fatalf("%s of nothing = %v", c.name, got)
			}
			checkStopped(t, r, 0, api.ErrShort)
		}
	}
	var zero body.Reader
	check(t, &zero, 0, api.OK)
	zero.Pid()
	checkStopped(t, &zero, 0, api.ErrShort)
}

func TestNilReader(t *testing.T) {
	var r *body.Reader
	tell := func() {
		if r.Left() != 0 || r.Err() != api.ErrShort || r.End() != api.ErrShort {
			t.Fatalf("a nil Reader: Left %d, Err %d, End %d", r.Left(), r.Err(), r.End())
		}
	}
	tell()
	for _, c := range generous() {
		if got := c.read(r); !reflect.DeepEqual(got, c.zero) {
			t.Fatalf("a nil Reader: %s answers %v", c.name, got)
		}
		tell()
	}
	for _, e := range []api.Errno{api.OK, api.ErrForm, api.ErrLong, api.ErrDead} {
		r.Stop(e)
		tell()
	}
}

// P7.3

func TestStop(t *testing.T) {
	b := []byte{1, 1, 1, 1, 1, 1, 0}
	for _, e := range []api.Errno{api.ErrArg, api.ErrShort, api.ErrLong, api.ErrForm, api.ErrDead, 18, -1, math.MaxInt, math.MinInt} {
		r := body.Read(b)
		r.Stop(e)
		checkStopped(t, r, len(b), e)
		// In the middle of the bytes, and behind the last one.
		r = body.Read(b)
		r.Pid()
		r.Stop(api.OK)
		r.Stop(e)
		checkStopped(t, r, len(b)-2, e)
		r = body.Read(b[:2])
		r.Pid()
		check(t, r, 0, api.OK)
		r.Stop(e)
		checkStopped(t, r, 0, e)
	}
}

func TestStopWithOK(t *testing.T) {
	r := body.Read([]byte{5, 6, 7})
	for _, want := range []uint64{5, 6, 7} {
		left := r.Left()
		r.Stop(api.OK)
		check(t, r, left, api.OK)
		if got := r.Num(9); got != want {
			t.Fatalf("behind a Stop with OK, Num answers %d, not %d", got, want)
		}
	}
	r.Stop(api.OK)
	check(t, r, 0, api.OK)
}

func TestStopBehindAnotherOne(t *testing.T) {
	r := body.Read([]byte{5, 6, 7})
	r.Stop(api.ErrBusy)
	r.Stop(api.ErrForm)
	checkStopped(t, r, 3, api.ErrBusy)
	r = body.Read([]byte{5, 6, 7})
	r.Num(4)
	r.Stop(api.ErrBusy)
	checkStopped(t, r, 3, api.ErrLong)
}

// TestEndStopsNothing: that there are bytes left is asked anew each time.
func TestEndStopsNothing(t *testing.T) {
	r := body.Read([]byte{9, 1, 1, 2, 0})
	for _, c := range []struct {
		read func() bool
		left int
	}{
		{func() bool { return r.Num(9) == 9 }, 4},
		{func() bool { return r.Truth() }, 3},
		{func() bool { return r.Pid() == api.Pid{Id: 1, Inc: 2} }, 1},
		{func() bool { return len(r.Bytes(-1)) == 0 }, 0},
	} {
		check(t, r, r.Left(), api.OK)
		if !c.read() {
			t.Fatalf("with %d bytes left, something else is read", r.Left())
		}
		check(t, r, c.left, api.OK)
	}
	r.Truth()
	checkStopped(t, r, 0, api.ErrShort)
}

// TestReaderKeepsAndChangesNothingHanded: what a Reader reads is what b was when it was handed in.
func TestReaderKeepsAndChangesNothingHanded(t *testing.T) {
	all := join(numbers(300), []byte{1}, someBytes(row(20)).form, processes(p, q).form, ballot(9, q).form)
	room := join(all, row(50))
	r, again := body.Read(room[:len(all)]), body.Read(room[:len(all)])
	clear(room)
	if n := r.Num(300); n != 300 || !r.Truth() || !bytes.Equal(r.Bytes(20), row(20)) || !slices.Equal(r.Pids(2), []api.Pid{p, q}) {
		t.Fatal("a Reader has kept the bytes that it was handed")
	}
	check(t, r, 3, api.OK)
	check(t, again, len(all), api.OK)
	if again.Num(300) != 300 {
		t.Fatal("two Readers read as one")
	}
	// The room behind the length has what is missing, but isn't read.
	for cut := range all {
		r := body.Read(all[:cut])
		r.Num(300)
		r.Truth()
		r.Bytes(20)
		r.Pids(2)
		r.Ballot()
		if r.Err() != api.ErrShort {
			t.Fatalf("of % x the room behind the length is read", all[:cut])
		}
	}
	if !bytes.Equal(all[:2], numbers(300)) || !bytes.Equal(all[4:24], row(20)) {
		t.Fatal("a Reader has changed what it was handed")
	}
}

func TestWhatIsReadIsNewMemory(t *testing.T) {
	two := someBytes([]byte("ab")).form
	b := join(two, two, two, two)
	r := body.Read(b)
	first := r.Bytes(2)
	_ = append(first, 9, 9, 9)
	clear(first)
	second, third := r.Bytes(2), r.Bytes(2)
	_ = append(second, 9, 9, 9)
	clear(second)
	if string(third) != "ab" || string(r.Bytes(2)) != "ab" {
		t.Fatal("bytes that are answered are the Reader's own, or those of another answer")
	}
	if !bytes.Equal(b, join(two, two, two, two)) {
		t.Fatal("bytes that are answered are those that were handed in")
	}
	pids := body.Read(join(processes(p, q).form, processes(p, q).form))
	l := pids.Pids(2)
	_ = append(l, none, none)
	clear(l)
	if !slices.Equal(pids.Pids(2), []api.Pid{p, q}) {
		t.Fatal("processes that are answered are those of another answer")
	}
}

// A model reads as the chapter tells it, in another way than the program: by places in a row.
type model struct {
	b  []byte
	at int
	e  api.Errno
}

// number answers the number at a place, and the place behind it.
func (m *model) number(at int) (n uint64, behind int, e api.Errno) {
	n, used := binary.Uvarint(m.b[at:])
	switch {
	case used == 0:
		// Ten bytes that all go on are no beginning of a form.
		if len(m.b)-at >= 10 {
			return 0, at, api.ErrForm
		}
		return 0, at, api.ErrShort
	case used < 0 || used > 1 && m.b[at+used-1] == 0:
		return 0, at, api.ErrForm
	}
	return n, at + used, api.OK
}

// process answers the process at a place, and the place behind it.
func (m *model) process(at int) (p api.Pid, behind int, e api.Errno) {
	id, behind, e := m.number(at)
	if e != api.OK {
		return none, at, e
	}
	inc, behind, e := m.number(behind)
	if e != api.OK {
		return none, at, e
	}
	if id > math.MaxUint16 || inc > math.MaxUint32 {
		return none, at, api.ErrForm
	}
	return api.Pid{Id: uint16(id), Inc: uint32(inc)}, behind, api.OK
}

// many answers how many are told at a place, of at most most, and the place behind it.
func (m *model) many(at, most int) (n uint64, behind int, e api.Errno) {
	n, behind, e = m.number(at)
	if e == api.OK && n > uint64(max(most, 0)) {
		e = api.ErrLong
	}
	return n, behind, e
}

// thing answers what a call of that kind would answer at the model's place, the place behind it, and what stops it.
func (m *model) thing(kind, most int) (got any, behind int, e api.Errno) {
	at := m.at
	switch kind {
	case 0:
		n, behind, e := m.number(at)
		if e == api.OK && n > uint64(most) {
			e = api.ErrLong
		}
		return n, behind, e
	case 1:
		if at == len(m.b) {
			return false, at, api.ErrShort
		}
		if m.b[at] > 1 {
			return false, at, api.ErrForm
		}
		return m.b[at] == 1, at + 1, api.OK
	case 2:
		return m.process(at)
	case 3:
		n, at, e := m.number(at)
		if e == api.OK && n > math.MaxUint32 {
			e = api.ErrLong
		}
		if e != api.OK {
			return nil, at, e
		}
		who, at, e := m.process(at)
		return api.Ballot{Round: uint32(n), Who: who}, at, e
	case 4:
		n, at, e := m.many(at, most)
		if e == api.OK && n > uint64(len(m.b)-at) {
			e = api.ErrShort
		}
		if e != api.OK {
			return nil, at, e
		}
		return bytesOf(m.b[at : at+int(n)]), at + int(n), api.OK
	}
	n, at, e := m.many(at, most)
	var l []api.Pid
	for uint64(len(l)) < n && e == api.OK {
		var one api.Pid
		one, at, e = m.process(at)
		l = append(l, one)
	}
	return l, at, e
}

// calls answers the calls of a Reader by their kinds.
func calls(most int) []call {
	return []call{num(uint64(most)), readTruth(), readPid(), readBallot(), readBytes(most), readPids(most)}
}

// against asks whether a call of that kind tells the same of the Reader as of the model.
func against(t *testing.T, r *body.Reader, m *model, kind, most int) {
	t.Helper()
	c := calls(most)[kind]
	want := c.zero
	if m.e == api.OK {
		got, behind, e := m.thing(kind, most)
		if e == api.OK {
			want, m.at = got, behind
		}
		m.e = e
	}
	if got := c.read(r); !reflect.DeepEqual(got, want) {
		t.Fatalf("% x: %s(%d) = %v, not %v", m.b, c.name, most, got, want)
	}
	if r.Left() != len(m.b)-m.at || r.Err() != m.e {
		t.Fatalf("% x: %s(%d): Left %d, Err %d, not %d, %d", m.b, c.name, most, r.Left(), r.Err(), len(m.b)-m.at, m.e)
	}
}

// TestAllShortRows: of all rows of up to five bytes of some values, each call tells what the chapter does.
func TestAllShortRows(t *testing.T) {
	values := []byte{0, 1, 2, 3, 0x7f, 0x80, 0xff}
	rows := [][]byte{nil}
	for from := 0; len(rows[from]) < 5; from++ {
		for _, c := range values {
			rows = append(rows, join(rows[from], []byte{c}))
		}
	}
	for _, b := range rows {
		for kind := range 6 {
			for _, most := range []int{0, 1, 2, math.MaxInt, -1} {
				against(t, body.Read(b), &model{b: b}, kind, most)
			}
		}
	}
}

// TestRowsOfCalls: of many rows, many calls one behind the other tell what the chapter does.
func TestRowsOfCalls(t *testing.T) {
	source := rand.New(rand.NewSource(7))
	values := []byte{0, 0, 1, 1, 1, 2, 2, 3, 4, 0x7f, 0x80, 0x81, 0xff}
	for range 100000 {
		b := make([]byte, source.Intn(24))
		for at := range b {
			b[at] = values[source.Intn(len(values))]
		}
		r, m := body.Read(b), &model{b: b}
		for range 12 {
			against(t, r, m, source.Intn(6), []int{0, 1, 2, 3, 127, 300, math.MaxInt, -1, math.MinInt}[source.Intn(9)])
		}
	}
}

// P7.4

func TestWhatWasLaidIsReadAsItWas(t *testing.T) {
	all := things()
	for _, one := range all {
		checkReads(t, laid(one), call{one.name, one.read, nil}, one.want)
	}
	source := rand.New(rand.NewSource(11))
	for range 2000 {
		var l []thing
		for range source.Intn(12) {
			l = append(l, all[source.Intn(len(all))])
		}
		b := laid(l...)
		r, left := body.Read(b), len(b)
		for _, one := range l {
			if got := one.read(r); !reflect.DeepEqual(got, one.want) {
				t.Fatalf("%s of %v is read as %v, Err %d", one.name, one.want, got, r.Err())
			}
			left -= len(one.form)
			check(t, r, left, api.OK)
		}
		check(t, r, 0, api.OK)
	}
}

// TestWhatWasCutIsReadUpToThere: a thing from whose end bytes are missing stops the reader ahead of it.
func TestWhatWasCutIsReadUpToThere(t *testing.T) {
	l := []thing{number(300), truth(true, 1), process(greatest), someBytes(row(200)), ballot(math.MaxUint32, greatest), processes(p, greatest, q), truth(false, 0), number(math.MaxUint64)}
	b := laid(l...)
	for cut := range b {
		r, left := body.Read(b[:cut]), cut
		for _, one := range l {
			if left < len(one.form) {
				one.read(r)
				break
			}
			if got := one.read(r); !reflect.DeepEqual(got, one.want) {
				t.Fatalf("cut to %d bytes, %s of %v is read as %v", cut, one.name, one.want, got)
			}
			left -= len(one.form)
		}
		checkStopped(t, r, left, api.ErrShort)
	}
}

package window_test

import (
	"bytes"
	"math"
	"math/rand"
	"runtime"
	"slices"
	"testing"

	"choragus/api"
	"choragus/window"
)

// row answers what the one with this Seq is of: bytes that tell it from its neighbours, and sometimes none.
func row(seq uint64) []byte {
	b := make([]byte, seq%7)
	for at := range b {
		b[at] = byte(seq>>uint(8*(at%3))) ^ byte(at*61)
	}
	return b
}

// filled answers a Sender of which n were put, each of its row.
func filled(t *testing.T, n int) *window.Sender {
	t.Helper()
	s := window.New()
	put(t, s, n)
	return s
}

// put puts n more, each of its row.
func put(t *testing.T, s *window.Sender, n int) {
	t.Helper()
	for range n {
		seq := s.Next()
		if e := s.Put(row(seq)); e != api.OK {
			t.Fatalf("Put of the Seq %d: %d", seq, e)
		}
	}
}

// seqs answers the Seqs of l.
func seqs(l []api.Item) []uint64 {
	var out []uint64
	for _, one := range l {
		out = append(out, one.Seq)
	}
	return out
}

// span answers the numbers from first to last.
func span(first, last uint64) []uint64 {
	var out []uint64
	for n := first; n <= last; n++ {
		out = append(out, n)
	}
	return out
}

// due fails unless s tells just those from first to last now, each with its row.
func due(t *testing.T, s *window.Sender, first, last uint64) {
	t.Helper()
	l := s.Due()
	if !slices.Equal(seqs(l), span(first, last)) {
		t.Fatalf("Due tells %v, not %d to %d", seqs(l), first, last)
	}
	for _, one := range l {
		if !bytes.Equal(one.B, row(one.Seq)) {
			t.Fatalf("Due tells the Seq %d with % x, not % x", one.Seq, one.B, row(one.Seq))
		}
	}
}

// stands fails unless so many wait, and the next one's Seq is this.
func stands(t *testing.T, s *window.Sender, wait int, next uint64) {
	t.Helper()
	if s.Len() != wait || s.Next() != next {
		t.Fatalf("%d wait, and the next one is %d; not %d and %d", s.Len(), s.Next(), wait, next)
	}
}

// counts fails unless s has told so many once, and so often one again.
func counts(t *testing.T, s *window.Sender, once, more uint64) {
	t.Helper()
	if o, m := s.Counts(); o != once || m != more {
		t.Fatalf("%d are told once and %d again, not %d and %d", o, m, once, more)
	}
}

// acks fails unless s lets go so many up to this Seq.
func acks(t *testing.T, s *window.Sender, upto uint64, want int) {
	t.Helper()
	if got := s.Ack(upto); got != want {
		t.Fatalf("Ack(%d) of %d that wait, the next one %d: %d, not %d", upto, s.Len(), s.Next(), got, want)
	}
}

func TestExample(t *testing.T) {
	s := filled(t, 20)
	due(t, s, 1, 16)
	due(t, s, 1, 0)
	acks(t, s, 4, 4)
	due(t, s, 17, 20)
}

// P11.1

func TestNew(t *testing.T) {
	s := window.New()
	if s == nil {
		t.Fatal("New answers nil")
	}
	stands(t, s, 0, 1)
	counts(t, s, 0, 0)
	due(t, s, 1, 0)
	s.Tick()
	due(t, s, 1, 0)
	for _, upto := range []uint64{0, 1, 2, math.MaxUint64} {
		acks(t, s, upto, 0)
	}
	stands(t, s, 0, 1)
	counts(t, s, 0, 0)
}

func TestPutOneByOne(t *testing.T) {
	s := window.New()
	for n := range uint64(api.MaxQueue) {
		stands(t, s, int(n), n+1)
		if e := s.Put(row(n + 1)); e != api.OK {
			t.Fatalf("Put when %d wait: %d", n, e)
		}
		stands(t, s, int(n)+1, n+2)
	}
}

func TestPutOfLengths(t *testing.T) {
	for _, n := range []int{0, 1, 2, 255, 256, api.MaxBody - 1, api.MaxBody} {
		s, b := window.New(), bytes.Repeat([]byte{7}, n)
		if e := s.Put(b); e != api.OK {
			t.Fatalf("Put of %d bytes: %d", n, e)
		}
		stands(t, s, 1, 2)
		if l := s.Due(); len(l) != 1 || l[0].Seq != 1 || !bytes.Equal(l[0].B, b) {
			t.Fatalf("Put of %d bytes isn't told as it was put", n)
		}
	}
	for _, n := range []int{api.MaxBody + 1, api.MaxBody + 2, 2 * api.MaxBody, 1 << 16, 1<<16 + 1, 1 << 20} {
		s := window.New()
		if e := s.Put(make([]byte, n)); e != api.ErrLong {
			t.Fatalf("Put of %d bytes: %d", n, e)
		}
		stands(t, s, 0, 1)
		due(t, s, 1, 0)
	}
}

func TestPutOfNothing(t *testing.T) {
	s := window.New()
	for _, b := range [][]byte{nil, {}, make([]byte, 9)[:0]} {
		if e := s.Put(b); e != api.OK {
			t.Fatalf("Put of no bytes: %d", e)
		}
	}
	stands(t, s, 3, 4)
	l := s.Due()
	if !slices.Equal(seqs(l), span(1, 3)) {
		t.Fatalf("three of no bytes are told as %v", l)
	}
	for _, one := range l {
		if len(one.B) != 0 {
			t.Fatalf("one of no bytes is told with % x", one.B)
		}
	}
}

func TestPutWhenManyWait(t *testing.T) {
	long := make([]byte, api.MaxBody+1)
	s := filled(t, api.MaxQueue-1)
	if e := s.Put(long); e != api.ErrLong {
		t.Fatalf("one less than MaxQueue wait, too many bytes: %d", e)
	}
	stands(t, s, api.MaxQueue-1, api.MaxQueue)
	put(t, s, 1)
	for range 3 {
		for _, b := range [][]byte{nil, {1}, long[:api.MaxBody]} {
			if e := s.Put(b); e != api.ErrBusy {
				t.Fatalf("MaxQueue wait: %d", e)
			}
		}
		if e := s.Put(long); e != api.ErrLong {
			t.Fatalf("MaxQueue wait, too many bytes: %d", e)
		}
		stands(t, s, api.MaxQueue, api.MaxQueue+1)
	}
	// What is told, or told anew, waits on; only what has arrived makes room.
	due(t, s, 1, 16)
	s.Tick()
	acks(t, s, 0, 0)
	if e := s.Put(nil); e != api.ErrBusy {
		t.Fatalf("MaxQueue wait, some are told: %d", e)
	}
	acks(t, s, 1, 1)
	stands(t, s, api.MaxQueue-1, api.MaxQueue+1)
	put(t, s, 1)
	if e := s.Put(nil); e != api.ErrBusy {
		t.Fatalf("MaxQueue wait again: %d", e)
	}
	stands(t, s, api.MaxQueue, api.MaxQueue+2)
	acks(t, s, api.MaxQueue+1, api.MaxQueue)
	put(t, s, api.MaxQueue)
	stands(t, s, api.MaxQueue, 2*api.MaxQueue+2)
	due(t, s, api.MaxQueue+2, api.MaxQueue+17)
}

func TestRefusedPutChangesNothing(t *testing.T) {
	for _, n := range []int{0, 1, 16, 17, 20, api.MaxQueue} {
		wrong := make([]byte, api.MaxBody+1)
		plain, other := filled(t, n), filled(t, n)
		refuse := func() {
			if e := other.Put(wrong); e != api.ErrLong {
				t.Fatalf("too many bytes: %d", e)
			}
			if n == api.MaxQueue {
				if e := other.Put(nil); e != api.ErrBusy {
					t.Fatalf("MaxQueue wait: %d", e)
				}
			}
		}
		for range 3 {
			refuse()
			if got, want := other.Due(), plain.Due(); !sameItems(got, want) {
				t.Fatalf("of %d that wait, behind a refused one: %v, not %v", n, seqs(got), seqs(want))
			}
			refuse()
			if got, want := other.Due(), plain.Due(); !sameItems(got, want) {
				t.Fatalf("of %d that wait, told already, behind a refused one: %v, not %v", n, seqs(got), seqs(want))
			}
			once, more := plain.Counts()
			counts(t, other, once, more)
			stands(t, other, plain.Len(), plain.Next())
			plain.Tick()
			other.Tick()
		}
	}
}

func TestPutKeepsValuesAlone(t *testing.T) {
	room := []byte("abcdefgh")
	s := window.New()
	for _, b := range [][]byte{room[:3], room[3:8], room[:0], room[2:6:6]} {
		if e := s.Put(b); e != api.OK {
			t.Fatal(e)
		}
	}
	if string(room) != "abcdefgh" {
		t.Fatalf("Put has changed what it was handed: %q", room)
	}
	clear(room)
	for range 2 {
		l := s.Due()
		if len(l) != 4 || string(l[0].B) != "abc" || string(l[1].B) != "defgh" || len(l[2].B) != 0 || string(l[3].B) != "cdef" {
			t.Fatalf("what was put is told as what stands there now: %v", l)
		}
		// What is told is new memory: neither another one's nor what waits.
		for at := range l {
			mine := bytes.Repeat([]byte{byte(at + 1)}, len(l[at].B))
			_ = append(append(l[at].B[:0], mine...), "????"...)
		}
		for at, one := range l {
			if bytes.Count(one.B, []byte{byte(at + 1)}) != len(one.B) {
				t.Fatal("two that are told share memory")
			}
		}
		clear(l)
		s.Tick()
	}
	if string(room) != "\x00\x00\x00\x00\x00\x00\x00\x00" {
		t.Fatalf("what was put is written to by what is told: %q", room)
	}
}

func TestPutDoesNotWriteBehindTheLength(t *testing.T) {
	room := []byte("abcdefgh")
	s := window.New()
	s.Put(room[:2:8])
	s.Put([]byte("xyz"))
	s.Due()
	s.Ack(1)
	s.Put(room[:4:8])
	s.Tick()
	s.Due()
	if string(room) != "abcdefgh" {
		t.Fatalf("what stands behind what was put has changed: %q", room)
	}
}

func TestSendersAreApart(t *testing.T) {
	a, b := filled(t, 20), filled(t, 3)
	due(t, a, 1, 16)
	acks(t, a, 5, 5)
	stands(t, b, 3, 4)
	counts(t, b, 0, 0)
	due(t, b, 1, 3)
	b.Tick()
	due(t, a, 17, 20)
	counts(t, a, 20, 0)
	counts(t, b, 3, 0)
}

func TestZeroSender(t *testing.T) {
	var s window.Sender
	stands(t, &s, 0, 1)
	put(t, &s, 20)
	due(t, &s, 1, 16)
	acks(t, &s, 4, 4)
	due(t, &s, 17, 20)
	counts(t, &s, 20, 0)
}

// P11.2

func TestDueOfSome(t *testing.T) {
	for _, n := range []uint64{1, 2, 3, 14, 15, 16, 17, 18, 31, 32, 33, 63, 64, 65, 127, 128} {
		s, last := filled(t, int(n)), min(n, 16)
		for range 3 {
			due(t, s, 1, last)
			due(t, s, 1, 0)
			due(t, s, 1, 0)
			s.Tick()
		}
		stands(t, s, int(n), n+1)
	}
}

func TestDueOfWhatIsPutLater(t *testing.T) {
	s := window.New()
	for n := range uint64(16) {
		put(t, s, 1)
		due(t, s, n+1, n+1)
	}
	// The window is full: whatever is put now has to wait for it.
	for range 5 {
		put(t, s, 1)
		due(t, s, 1, 0)
	}
	s.Tick()
	due(t, s, 1, 16)
	acks(t, s, 2, 2)
	due(t, s, 17, 18)
	acks(t, s, 18, 16)
	due(t, s, 19, 21)
}

func TestTick(t *testing.T) {
	s := filled(t, 5)
	s.Tick()
	s.Tick()
	due(t, s, 1, 5)
	s.Tick()
	s.Tick()
	due(t, s, 1, 5)
	put(t, s, 2)
	due(t, s, 6, 7)
	s.Tick()
	put(t, s, 1)
	due(t, s, 1, 8)
	due(t, s, 1, 0)
	stands(t, s, 8, 9)
}

// TestDueBehindAck holds for each number that wait, and each number of these that have arrived, what is told behind it.
func TestDueBehindAck(t *testing.T) {
	for n := range uint64(40) {
		for upto := range n + 3 {
			s, left, gone := filled(t, int(n)), min(n, 16), uint64(0)
			due(t, s, 1, left)
			if upto <= n {
				gone = upto
			}
			acks(t, s, upto, int(gone))
			stands(t, s, int(n-gone), n+1)
			due(t, s, max(left, gone)+1, min(n, gone+16))
			due(t, s, 1, 0)
			s.Tick()
			due(t, s, gone+1, min(n, gone+16))
		}
	}
}

func TestDueBehindTickAndAck(t *testing.T) {
	s := filled(t, 40)
	due(t, s, 1, 16)
	s.Tick()
	acks(t, s, 3, 3)
	due(t, s, 4, 19)
	acks(t, s, 10, 7)
	s.Tick()
	put(t, s, 1)
	due(t, s, 11, 26)
	acks(t, s, 26, 16)
	due(t, s, 27, 41)
	acks(t, s, 41, 15)
	s.Tick()
	due(t, s, 1, 0)
	stands(t, s, 0, 42)
	put(t, s, 1)
	due(t, s, 42, 42)
}

func TestAck(t *testing.T) {
	s := filled(t, 20)
	for _, c := range []struct {
		upto uint64
		want int
	}{
		{0, 0},
		{21, 0}, {22, 0}, {23, 0}, {64, 0}, {1 << 32, 0}, {1<<32 + 1, 0}, {api.Ceiling, 0}, {1 << 63, 0}, {1<<63 + 1, 0}, {math.MaxUint64 - 1, 0}, {math.MaxUint64, 0},
		{1, 1}, {1, 0}, {0, 0}, {21, 0},
		{4, 3}, {4, 0}, {3, 0}, {1, 0}, {0, 0}, {math.MaxUint64, 0},
		{5, 1},
		{19, 14}, {18, 0}, {19, 0}, {21, 0}, {1<<32 + 20, 0},
		{20, 1}, {20, 0}, {19, 0}, {0, 0}, {21, 0}, {22, 0}, {math.MaxUint64, 0},
	} {
		before := s.Len()
		acks(t, s, c.upto, c.want)
		stands(t, s, before-c.want, 21)
	}
	due(t, s, 1, 0)
	counts(t, s, 0, 0)
	put(t, s, 2)
	stands(t, s, 2, 23)
	acks(t, s, 20, 0)
	acks(t, s, 23, 0)
	due(t, s, 21, 22)
	acks(t, s, 22, 2)
}

func TestAckOfWhatWasNotTold(t *testing.T) {
	s := filled(t, api.MaxQueue)
	acks(t, s, 100, 100)
	counts(t, s, 0, 0)
	due(t, s, 101, 116)
	acks(t, s, api.MaxQueue, 28)
	counts(t, s, 16, 0)
	due(t, s, 1, 0)
	put(t, s, 1)
	due(t, s, api.MaxQueue+1, api.MaxQueue+1)
}

// TestAckOfAll lets go any number at once, so that what is told of the next ones can't be what was told of those.
func TestAckOfAll(t *testing.T) {
	for n := 1; n <= api.MaxQueue; n++ {
		s, last := filled(t, n), uint64(n)
		due(t, s, 1, min(last, 16))
		acks(t, s, last, n)
		stands(t, s, 0, last+1)
		due(t, s, 1, 0)
		put(t, s, 20)
		due(t, s, last+1, last+16)
		counts(t, s, min(last, 16)+16, 0)
	}
}

func TestLongRow(t *testing.T) {
	s, next := window.New(), uint64(1)
	for round := range uint64(3000) {
		n := round%16 + 1
		put(t, s, int(n))
		due(t, s, next, next+n-1)
		stands(t, s, int(n), next+n)
		acks(t, s, next+n-1, int(n))
		next += n
	}
	stands(t, s, 0, next)
	counts(t, s, next-1, 0)
}

// P11.3

func TestCountsWithoutTicks(t *testing.T) {
	s := filled(t, 20)
	counts(t, s, 0, 0)
	due(t, s, 1, 16)
	counts(t, s, 16, 0)
	due(t, s, 1, 0)
	counts(t, s, 16, 0)
	acks(t, s, 4, 4)
	counts(t, s, 16, 0)
	due(t, s, 17, 20)
	counts(t, s, 20, 0)
	acks(t, s, 20, 16)
	due(t, s, 1, 0)
	counts(t, s, 20, 0)
	put(t, s, 3)
	counts(t, s, 20, 0)
	due(t, s, 21, 23)
	counts(t, s, 23, 0)
}

func TestCountsWithTicks(t *testing.T) {
	s := filled(t, 20)
	s.Tick()
	counts(t, s, 0, 0)
	due(t, s, 1, 16)
	s.Tick()
	counts(t, s, 16, 0)
	due(t, s, 1, 16)
	counts(t, s, 16, 16)
	s.Tick()
	s.Tick()
	acks(t, s, 4, 4)
	counts(t, s, 16, 16)
	due(t, s, 5, 20)
	counts(t, s, 20, 28)
	due(t, s, 1, 0)
	counts(t, s, 20, 28)
	s.Tick()
	acks(t, s, 19, 15)
	put(t, s, 2)
	due(t, s, 20, 22)
	counts(t, s, 22, 29)
	for n := range uint64(50) {
		s.Tick()
		due(t, s, 20, 22)
		counts(t, s, 22, 29+3*(n+1))
	}
}

func TestCountsOfNoneTold(t *testing.T) {
	s := filled(t, 30)
	s.Tick()
	acks(t, s, 29, 29)
	counts(t, s, 0, 0)
	s.Tick()
	due(t, s, 30, 30)
	counts(t, s, 1, 0)
	s.Tick()
	acks(t, s, 30, 1)
	due(t, s, 1, 0)
	counts(t, s, 1, 0)
}

// All: nil, a second reading, and what is kept

func TestNilSender(t *testing.T) {
	var s *window.Sender
	for range 2 {
		for _, n := range []int{0, 1, api.MaxBody, api.MaxBody + 1} {
			if e := s.Put(make([]byte, n)); e != api.ErrFull {
				t.Fatalf("Put of %d bytes: %d", n, e)
			}
		}
		if e := s.Put(nil); e != api.ErrFull {
			t.Fatalf("Put of nil: %d", e)
		}
		s.Tick()
		if l := s.Due(); len(l) != 0 {
			t.Fatalf("Due: %v", l)
		}
		for _, upto := range []uint64{0, 1, 2, 1 << 63, math.MaxUint64} {
			if n := s.Ack(upto); n != 0 {
				t.Fatalf("Ack(%d): %d", upto, n)
			}
		}
		if s.Len() != 0 || s.Next() != 0 {
			t.Fatalf("Len and Next: %d and %d", s.Len(), s.Next())
		}
		if once, more := s.Counts(); once != 0 || more != 0 {
			t.Fatalf("Counts: %d and %d", once, more)
		}
	}
}

// one is what was put once: its bytes, whether it has arrived, and how often it was told.
type one struct {
	b         []byte
	gone      bool
	sinceTick bool
	told      uint64
}

// second is a second reading of the chapter: all that was ever put, the Seq 1 first, and nothing counted but when it is asked.
type second []one

func (s *second) waiting() []int {
	var places []int
	for at, put := range *s {
		if !put.gone {
			places = append(places, at)
		}
	}
	return places
}

func (s *second) put(b []byte) api.Errno {
	if len(b) > api.MaxBody {
		return api.ErrLong
	}
	if len(s.waiting()) == api.MaxQueue {
		return api.ErrBusy
	}
	*s = append(*s, one{b: slices.Clone(b)})
	return api.OK
}

func (s *second) due() []api.Item {
	var out []api.Item
	for nth, at := range s.waiting() {
		put := &(*s)[at]
		if nth < api.MaxWindow && !put.sinceTick {
			put.sinceTick = true
			put.told++
			out = append(out, api.Item{Seq: uint64(at) + 1, B: put.b})
		}
	}
	return out
}

func (s *second) tick() {
	for at := range *s {
		(*s)[at].sinceTick = false
	}
}

func (s *second) ack(upto uint64) int {
	n := 0
	if upto > uint64(len(*s)) {
		return 0
	}
	for at := range *s {
		if put := &(*s)[at]; uint64(at)+1 <= upto && !put.gone {
			put.gone = true
			n++
		}
	}
	return n
}

func (s *second) counts() (once, more uint64) {
	for _, put := range *s {
		if put.told > 0 {
			once++
			more += put.told - 1
		}
	}
	return once, more
}

func sameItems(a, b []api.Item) bool {
	return slices.EqualFunc(a, b, func(x, y api.Item) bool { return x.Seq == y.Seq && bytes.Equal(x.B, y.B) })
}

// both are a Sender and the second reading, on which the same calls are made.
type both struct {
	t *testing.T
	s *window.Sender
	m second
}

func (x *both) put(b []byte) {
	x.t.Helper()
	if got, want := x.s.Put(b), x.m.put(b); got != want {
		x.t.Fatalf("Put of %d bytes: %d, not %d", len(b), got, want)
	}
}

func (x *both) due() {
	x.t.Helper()
	if got, want := x.s.Due(), x.m.due(); !sameItems(got, want) {
		x.t.Fatalf("Due: %v, not %v", got, want)
	}
}

func (x *both) tick() {
	x.s.Tick()
	x.m.tick()
}

func (x *both) ack(upto uint64) {
	x.t.Helper()
	if got, want := x.s.Ack(upto), x.m.ack(upto); got != want {
		x.t.Fatalf("Ack(%d): %d, not %d", upto, got, want)
	}
}

// same fails unless what can be asked without a change is the same of both.
func (x *both) same() {
	x.t.Helper()
	stands(x.t, x.s, len(x.m.waiting()), uint64(len(x.m))+1)
	once, more := x.m.counts()
	counts(x.t, x.s, once, more)
}

// first answers the Seq of the first one that waits, or the next one.
func (x *both) first() uint64 {
	if waiting := x.m.waiting(); len(waiting) > 0 {
		return uint64(waiting[0]) + 1
	}
	return uint64(len(x.m)) + 1
}

// TestSecondReadingOfShortRows makes all rows of five calls of eight kinds, on Senders that stand at the window's edge and elsewhere.
func TestSecondReadingOfShortRows(t *testing.T) {
	calls := []func(x *both){
		func(x *both) { x.put([]byte{byte(len(x.m))}) },
		func(x *both) { x.due() },
		func(x *both) { x.tick() },
		func(x *both) { x.ack(x.first()) },
		func(x *both) { x.ack(x.first() + 1) },
		func(x *both) { x.ack(x.first() - 1) },
		func(x *both) { x.ack(uint64(len(x.m))) },
		func(x *both) { x.ack(uint64(len(x.m)) + 1) },
	}
	const long = 5
	rows := 1
	for range long {
		rows *= len(calls)
	}
	for _, ahead := range []int{0, 1, 15, 16, 17, 18} {
		for number := range rows {
			x := &both{t: t, s: window.New()}
			for range ahead {
				x.put(nil)
			}
			for rest, nth := number, 0; nth < long; nth++ {
				calls[rest%len(calls)](x)
				rest /= len(calls)
				x.same()
			}
			x.due()
			x.same()
		}
	}
}

// TestSecondReadingOfLongRows makes seeded rows of many calls, of which some seldom let anything go, and some seldom put.
func TestSecondReadingOfLongRows(t *testing.T) {
	for seed := range int64(240) {
		rnd := rand.New(rand.NewSource(seed))
		x := &both{t: t, s: window.New()}
		puts, dues, ticks := 1+rnd.Intn(9), 1+rnd.Intn(5), 1+rnd.Intn(3)
		for range 400 {
			switch n := rnd.Intn(puts + dues + ticks + 2); {
			case n < puts:
				x.put(someBytes(rnd))
			case n < puts+dues:
				x.due()
			case n < puts+dues+ticks:
				x.tick()
			default:
				x.ack(someUpto(rnd, x))
			}
			x.same()
		}
	}
}

// someBytes answers a few bytes, or now and then as many as may be, or one more.
func someBytes(rnd *rand.Rand) []byte {
	n := rnd.Intn(20)
	switch rnd.Intn(40) {
	case 0:
		n = api.MaxBody
	case 1:
		n = api.MaxBody + 1
	}
	b := make([]byte, n)
	for at := range b {
		b[at] = byte(rnd.Intn(256))
	}
	return b
}

// someUpto answers a Seq near those that wait, or now and then any.
func someUpto(rnd *rand.Rand, x *both) uint64 {
	first, next := x.first(), uint64(len(x.m))+1
	switch rnd.Intn(10) {
	case 0:
		return rnd.Uint64()
	case 1:
		return uint64(rnd.Int63n(int64(next) + 3))
	case 2:
		return next - uint64(rnd.Int63n(int64(min(next, 3))+1))
	case 3:
		return next + uint64(rnd.Intn(3))
	default:
		return first - 1 + uint64(rnd.Intn(20))
	}
}

// TestSecondReadingAtTheQueuesEnd makes seeded rows on Senders of which nearly MaxQueue wait.
func TestSecondReadingAtTheQueuesEnd(t *testing.T) {
	for seed := range int64(60) {
		rnd := rand.New(rand.NewSource(seed))
		x := &both{t: t, s: window.New()}
		for range api.MaxQueue - 2 {
			x.put(someBytes(rnd))
		}
		for range 200 {
			switch rnd.Intn(6) {
			case 0:
				x.ack(x.first() + uint64(rnd.Intn(3)))
			case 1:
				x.tick()
			case 2:
				x.due()
			default:
				x.put(someBytes(rnd))
			}
			x.same()
		}
	}
}

// TestNothingIsKeptThatHasArrived holds the memory of Senders that let go all but one of many long ones, so many at a time, against a bound that they would pass by far.
func TestNothingIsKeptThatHasArrived(t *testing.T) {
	const senders = 60
	for _, step := range []int{1, 2, api.MaxQueue - 1} {
		before := heldNow()
		all := make([]*window.Sender, senders)
		for at := range all {
			all[at] = nearlyArrived(t, step)
		}
		after := heldNow()
		if bound := uint64(senders * 16 * api.MaxBody); after > before+bound {
			t.Fatalf("let go %d at a time, %d Senders of which one of %d bytes waits keep %d bytes", step, senders, api.MaxBody, after-before)
		}
		runtime.KeepAlive(all)
	}
}

// nearlyArrived answers a Sender of which MaxQueue of the longest were put, and all but the last one arrived, so many at a time.
func nearlyArrived(t *testing.T, step int) *window.Sender {
	t.Helper()
	s := window.New()
	for range api.MaxQueue {
		if e := s.Put(make([]byte, api.MaxBody)); e != api.OK {
			t.Fatal(e)
		}
	}
	for upto := uint64(0); s.Len() > 1; {
		s.Due()
		upto = min(upto+uint64(step), api.MaxQueue-1)
		if s.Ack(upto) == 0 {
			t.Fatalf("Ack(%d) lets nothing go", upto)
		}
	}
	return s
}

// heldNow answers how much memory is reached.
func heldNow() uint64 {
	var m runtime.MemStats
	runtime.GC()
	runtime.GC()
	runtime.ReadMemStats(&m)
	return m.HeapAlloc
}

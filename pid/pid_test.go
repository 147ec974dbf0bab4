package pid_test

import (
	"bytes"
	"encoding/binary"
	"math"
	"math/big"
	"slices"
	"sort"
	"strings"
	"testing"

	"choragus/api"
	"choragus/pid"
)

var (
	none     = api.Pid{}
	greatest = api.Pid{Id: math.MaxUint16, Inc: math.MaxUint32}
)

// processes has those about each edge of an Id and an Inc, those that may not be among them, each once, those that are ahead first.
func processes() []api.Pid {
	var l []api.Pid
	for _, id := range []uint16{0, 1, 2, 15, 16, 17, 127, 128, 255, 256, 16383, 16384, 32767, 32768, 65534, 65535} {
		for _, inc := range []uint32{0, 1, 2, 127, 128, 65535, 65536, 1<<31 - 1, 1 << 31, 1<<32 - 2, 1<<32 - 1} {
			l = append(l, api.Pid{Id: id, Inc: inc})
		}
	}
	return l
}

// form is what Put lays, made by the library.
func form(id, inc uint64) []byte {
	return binary.AppendUvarint(binary.AppendUvarint(nil, id), inc)
}

// P3.1

func TestMay(t *testing.T) {
	for _, c := range []struct {
		p    api.Pid
		want bool
	}{
		{none, false},
		{api.Pid{Id: 0, Inc: 1}, true},
		{api.Pid{Id: 3, Inc: 1}, true},
		{api.Pid{Id: 3}, false},
		{api.Pid{Id: api.MaxProcs - 1, Inc: 1}, true},
		{api.Pid{Id: api.MaxProcs - 1, Inc: math.MaxUint32}, true},
		{api.Pid{Id: api.MaxProcs - 1}, false},
		{api.Pid{Id: api.MaxProcs, Inc: 1}, false},
		{api.Pid{Id: api.MaxProcs}, false},
		{api.Pid{Id: 256, Inc: 1}, false},
		{api.Pid{Id: math.MaxUint16, Inc: 1}, false},
		{greatest, false},
	} {
		if got := pid.May(c.p); got != c.want {
			t.Errorf("May(%v) = %t", c.p, got)
		}
	}
	for id := range 1 << 16 {
		if got := pid.May(api.Pid{Id: uint16(id), Inc: 1 << 31}); got != (id < 16) {
			t.Errorf("May of the Id %d = %t", id, got)
		}
	}
}

func TestNumber(t *testing.T) {
	for p, want := range map[api.Pid]uint64{
		none:                              0,
		{Id: 0, Inc: 1}:                   1,
		{Id: 3, Inc: 1}:                   3*1<<32 + 1,
		{Id: 1, Inc: 0}:                   1 << 32,
		{Id: 0, Inc: math.MaxUint32}:      1<<32 - 1,
		{Id: math.MaxUint16, Inc: 0}:      0xffff << 32,
		{Id: 0x1234, Inc: 0x56789abc}:     0x123456789abc,
		{Id: 0x8000, Inc: math.MaxUint32}: 0x8000ffffffff,
		greatest:                          1<<48 - 1,
	} {
		if got := pid.Number(p); got != want {
			t.Errorf("Number(%v) = %x, not %x", p, got, want)
		}
	}
}

func TestOf(t *testing.T) {
	for n, want := range map[uint64]api.Pid{
		0:              none,
		1:              {Inc: 1},
		1<<32 - 1:      {Inc: math.MaxUint32},
		1 << 32:        {Id: 1},
		3<<32 + 1:      {Id: 3, Inc: 1},
		0x123456789abc: {Id: 0x1234, Inc: 0x56789abc},
		1<<48 - 1:      greatest,
	} {
		if got, there := pid.Of(n); got != want || !there {
			t.Errorf("Of(%x) = %v, %t", n, got, there)
		}
	}
	for _, p := range processes() {
		if got, there := pid.Of(pid.Number(p)); got != p || !there {
			t.Errorf("%v has a number that is that of %v, %t", p, got, there)
		}
	}
}

func TestOfTooManyBits(t *testing.T) {
	l := []uint64{1<<48 + 1, 1<<49 - 1, math.MaxUint64, math.MaxUint64 - 1, math.MaxInt64, 3<<48 | 3<<32 | 1}
	for at := 48; at < 64; at++ {
		l = append(l, 1<<at, 1<<at|1<<32|1, math.MaxUint64<<at)
	}
	for _, n := range l {
		if p, there := pid.Of(n); p != none || there {
			t.Errorf("Of(%x) = %v, %t", n, p, there)
		}
	}
}

func TestAhead(t *testing.T) {
	for _, c := range []struct {
		a, b api.Pid
		want bool
	}{
		{api.Pid{Id: 3, Inc: 1}, api.Pid{Id: 3, Inc: 2}, true},
		{api.Pid{Id: 3, Inc: 2}, api.Pid{Id: 3, Inc: 1}, false},
		{api.Pid{Id: 3, Inc: 1}, api.Pid{Id: 4, Inc: 1}, true},
		{api.Pid{Id: 3, Inc: 1}, api.Pid{Id: 3, Inc: 1}, false},
		{api.Pid{Id: 2, Inc: 1 << 31}, api.Pid{Id: 3, Inc: 300}, true},
		{api.Pid{Id: 3, Inc: math.MaxUint32}, api.Pid{Id: 4}, true},
		{api.Pid{Id: 4}, api.Pid{Id: 3, Inc: math.MaxUint32}, false},
		{api.Pid{Id: 3, Inc: 1<<31 - 1}, api.Pid{Id: 3, Inc: 1 << 31}, true},
		{none, none, false},
		{none, greatest, true},
		{greatest, none, false},
		{greatest, greatest, false},
	} {
		if got := pid.Ahead(c.a, c.b); got != c.want {
			t.Errorf("Ahead(%v, %v) = %t", c.a, c.b, got)
		}
	}
	l := processes()
	for i, a := range l {
		for j, b := range l {
			if got := pid.Ahead(a, b); got != (i < j) {
				t.Errorf("Ahead(%v, %v) = %t", a, b, got)
			}
		}
	}
}

func TestBefore(t *testing.T) {
	p, q := api.Pid{Id: 3, Inc: 1}, api.Pid{Id: 3, Inc: 2}
	for _, c := range []struct {
		a, b api.Ballot
		want bool
	}{
		{api.Ballot{}, api.Ballot{}, false},
		{api.Ballot{}, api.Ballot{Round: 1}, true},
		{api.Ballot{Who: p}, api.Ballot{Round: 1}, true},
		{api.Ballot{Round: 1}, api.Ballot{Who: greatest}, false},
		{api.Ballot{Round: 1, Who: q}, api.Ballot{Round: 2, Who: p}, true},
		{api.Ballot{Round: 2, Who: p}, api.Ballot{Round: 1, Who: q}, false},
		{api.Ballot{Round: 2, Who: p}, api.Ballot{Round: 2, Who: q}, true},
		{api.Ballot{Round: 2, Who: q}, api.Ballot{Round: 2, Who: p}, false},
		{api.Ballot{Round: 2, Who: q}, api.Ballot{Round: 2, Who: q}, false},
		{api.Ballot{Round: 2, Who: api.Pid{Id: 2, Inc: 9}}, api.Ballot{Round: 2, Who: p}, true},
		{api.Ballot{Round: 1<<31 - 1, Who: q}, api.Ballot{Round: 1 << 31, Who: p}, true},
		{api.Ballot{Round: math.MaxUint32, Who: none}, api.Ballot{Round: math.MaxUint32 - 1, Who: greatest}, false},
	} {
		if got := pid.Before(c.a, c.b); got != c.want {
			t.Errorf("Before(%v, %v) = %t", c.a, c.b, got)
		}
	}
	var l []api.Ballot
	for _, round := range []uint32{0, 1, 2, 1<<31 - 1, 1 << 31, math.MaxUint32 - 1, math.MaxUint32} {
		for _, who := range []api.Pid{none, p, q, {Id: 4, Inc: 1}, greatest} {
			l = append(l, api.Ballot{Round: round, Who: who})
		}
	}
	for i, a := range l {
		for j, b := range l {
			if got := pid.Before(a, b); got != (i < j) {
				t.Errorf("Before(%v, %v) = %t", a, b, got)
			}
		}
	}
}

func TestNext(t *testing.T) {
	p, q := api.Pid{Id: 3, Inc: 1}, api.Pid{Id: 2, Inc: 7}
	for _, c := range []struct {
		b    api.Ballot
		who  api.Pid
		want api.Ballot
		e    api.Errno
	}{
		{api.Ballot{}, p, api.Ballot{Round: 1, Who: p}, api.OK},
		{api.Ballot{}, none, api.Ballot{Round: 1}, api.OK},
		{api.Ballot{Round: 4, Who: p}, q, api.Ballot{Round: 5, Who: q}, api.OK},
		{api.Ballot{Round: 4, Who: p}, p, api.Ballot{Round: 5, Who: p}, api.OK},
		{api.Ballot{Round: 1<<31 - 1, Who: p}, greatest, api.Ballot{Round: 1 << 31, Who: greatest}, api.OK},
		{api.Ballot{Round: math.MaxUint32 - 1, Who: p}, q, api.Ballot{Round: math.MaxUint32, Who: q}, api.OK},
		{api.Ballot{Round: math.MaxUint32, Who: p}, q, api.Ballot{}, api.ErrExhausted},
		{api.Ballot{Round: math.MaxUint32, Who: p}, p, api.Ballot{}, api.ErrExhausted},
		{api.Ballot{Round: math.MaxUint32}, none, api.Ballot{}, api.ErrExhausted},
	} {
		got, e := pid.Next(c.b, c.who)
		if got != c.want || e != c.e {
			t.Errorf("Next(%v, %v) = %v, %d", c.b, c.who, got, e)
		}
		if e == api.OK && !pid.Before(c.b, got) {
			t.Errorf("%v isn't ahead of its next one", c.b)
		}
	}
}

// P3.2

func TestPrint(t *testing.T) {
	for p, want := range map[api.Pid]string{
		none:                    "0.0",
		{Id: 3, Inc: 1}:         "3.1",
		{Id: 0, Inc: 2}:         "0.2",
		{Id: 10, Inc: 100}:      "10.100",
		{Id: 2, Inc: 1 << 31}:   "2.2147483648",
		{Id: 1 << 15, Inc: 300}: "32768.300",
		greatest:                "65535.4294967295",
	} {
		if got := pid.Print(p); got != want {
			t.Errorf("Print(%v) = %q", p, got)
		}
	}
}

func TestParse(t *testing.T) {
	for s, want := range map[string]api.Pid{
		"0.0":              none,
		"3.1":              {Id: 3, Inc: 1},
		"0.4294967295":     {Inc: math.MaxUint32},
		"65535.0":          {Id: math.MaxUint16},
		"16.10":            {Id: 16, Inc: 10},
		"65535.4294967295": greatest,
	} {
		if got, e := pid.Parse(s); got != want || e != api.OK {
			t.Errorf("Parse(%q) = %v, %d", s, got, e)
		}
	}
	for _, p := range processes() {
		if got, e := pid.Parse(pid.Print(p)); got != p || e != api.OK {
			t.Errorf("%v has a text that is that of %v, %d", p, got, e)
		}
	}
}

func TestParseOfNoText(t *testing.T) {
	for _, s := range []string{
		"", ".", "1", "1.", ".1", "..", "1..1", "1.1.1", "1.1.", ".1.1", "11", "1,1", "1:1", "1/1", "1 1",
		"01.1", "1.01", "00.1", "1.00", "00.0", "0.00", "000000000000000000000000000001.1", "1.000000000000000000000000000001",
		"+1.1", "1.+1", "-1.1", "1.-1", "-0.1", "1.-0", "\u22121.1",
		" 1.1", "1.1 ", "1 .1", "1. 1", "1.1\n", "\t1.1", "1.1\x00", "\x001.1",
		"65536.1", "65537.1", "131072.1", "99999.1", "4294967296.1", "18446744073709551616.1", "18446744073709551617.1",
		"1.4294967296", "1.4294967297", "1.8589934592", "1.9999999999", "1.18446744073709551616", "1.18446744073709551617",
		"65536.4294967296", strings.Repeat("9", 10000) + ".1", "1." + strings.Repeat("9", 10000),
		"1e1.1", "1.1e1", "0x1.1", "1.0x1", "0b1.1", "0o1.1", "1_0.1", "1.1_0", "a.1", "1.a", "f.f",
		"inf.1", "nil", "\xff.\xff", "\u0661.\u0661", "\uff11.\uff11", "1\uff0e1", "1.1/0",
	} {
		if p, e := pid.Parse(s); p != none || e != api.ErrForm {
			t.Errorf("Parse(%q) = %v, %d", s, p, e)
		}
	}
}

// TestParseOfAllShortTexts: of all texts of up to six letters of a few, each is read just where it is what Print tells of what was read.
func TestParseOfAllShortTexts(t *testing.T) {
	const letters = "019.-+"
	texts, all := []string{""}, 0
	for range 6 {
		var longer []string
		for _, s := range texts {
			for _, c := range letters {
				longer = append(longer, s+string(c))
			}
		}
		for _, s := range longer {
			p, e := pid.Parse(s)
			want, is := expected(s)
			if is && (e != api.OK || p != want) || !is && (e != api.ErrForm || p != none) {
				t.Fatalf("Parse(%q) = %v, %d", s, p, e)
			}
			if is {
				all++
			}
		}
		texts = longer
	}
	if all == 0 {
		t.Fatal("no text was a process's")
	}
}

// expected reads a text digit by digit, as the chapter tells it.
func expected(s string) (api.Pid, bool) {
	parts := strings.Split(s, ".")
	if len(parts) != 2 {
		return none, false
	}
	var n [2]*big.Int
	for at, part := range parts {
		if part == "" || strings.Trim(part, "0123456789") != "" || len(part) > 1 && part[0] == '0' {
			return none, false
		}
		n[at], _ = new(big.Int).SetString(part, 10)
	}
	if n[0].BitLen() > 16 || n[1].BitLen() > 32 {
		return none, false
	}
	return api.Pid{Id: uint16(n[0].Uint64()), Inc: uint32(n[1].Uint64())}, true
}

func TestSort(t *testing.T) {
	a, b, c, d := api.Pid{Id: 2, Inc: 1 << 31}, api.Pid{Id: 3, Inc: 1}, api.Pid{Id: 3, Inc: 2}, api.Pid{Id: 4, Inc: 1}
	for _, l := range []struct{ l, want []api.Pid }{
		{nil, nil},
		{[]api.Pid{}, nil},
		{[]api.Pid{b}, []api.Pid{b}},
		{[]api.Pid{b, b}, []api.Pid{b}},
		{[]api.Pid{b, b, b, b, b}, []api.Pid{b}},
		{[]api.Pid{a, b, c, d}, []api.Pid{a, b, c, d}},
		{[]api.Pid{d, c, b, a}, []api.Pid{a, b, c, d}},
		{[]api.Pid{c, a, d, a, b, d, c, c}, []api.Pid{a, b, c, d}},
		{[]api.Pid{none}, []api.Pid{none}},
		{[]api.Pid{none, greatest, none}, []api.Pid{none, greatest}},
		{[]api.Pid{greatest, a, none}, []api.Pid{none, a, greatest}},
	} {
		if got := pid.Sort(l.l); !slices.Equal(got, l.want) {
			t.Errorf("Sort(%v) = %v", l.l, got)
		}
	}
}

func TestSortOfMany(t *testing.T) {
	want := processes()
	for step := 1; step < len(want); step++ {
		var l []api.Pid
		for at := range 3 * len(want) {
			l = append(l, want[at*step%len(want)])
		}
		l = append(l, want...)
		if got := pid.Sort(l); !slices.Equal(got, want) {
			t.Fatalf("in steps of %d: %v", step, got)
		}
	}
}

// TestSortOfAnyRow: rows made by a short rule, sorted by numbers in another way.
func TestSortOfAnyRow(t *testing.T) {
	n := uint64(1)
	for length := range 60 {
		there := map[uint64]bool{}
		var l, want []api.Pid
		for range length {
			n = n*6364136223846793005 + 1442695040888963407
			p := api.Pid{Id: uint16(n >> 60), Inc: uint32(n>>50) & 3}
			l = append(l, p)
			there[pid.Number(p)] = true
		}
		var numbers []int
		for k := range there {
			numbers = append(numbers, int(k))
		}
		sort.Ints(numbers)
		for _, k := range numbers {
			p, _ := pid.Of(uint64(k))
			want = append(want, p)
		}
		if got := pid.Sort(l); !slices.Equal(got, want) {
			t.Fatalf("Sort(%v) = %v", l, got)
		}
	}
}

func TestSortIsNewMemory(t *testing.T) {
	a, b, c, x := api.Pid{Id: 1, Inc: 1}, api.Pid{Id: 2, Inc: 1}, api.Pid{Id: 3, Inc: 1}, api.Pid{Id: 9, Inc: 9}
	for _, row := range [][]api.Pid{{a, b, c, x, x}, {c, b, a, x, x}, {b, b, a, x, x}, {a, a, a, x, x}} {
		room := slices.Clone(row)
		got := pid.Sort(room[:3])
		if slices.Contains(got, x) {
			t.Fatalf("the room behind the length was read: %v", got)
		}
		if !slices.Equal(room, row) {
			t.Fatalf("Sort has changed what it was handed: %v", room)
		}
		first := slices.Clone(got)
		clear(room)
		if !slices.Equal(got, first) {
			t.Fatalf("the answer shares memory with what was handed in: %v", got)
		}
		copy(room, row)
		again := pid.Sort(room[:3])
		clear(got)
		if !slices.Equal(again, first) || !slices.Equal(room, row) {
			t.Fatalf("what is written into an answer is told by another one: %v", again)
		}
	}
}

// P3.3

func TestPut(t *testing.T) {
	for _, c := range []struct {
		b    []byte
		p    api.Pid
		want []byte
	}{
		{nil, none, []byte{0, 0}},
		{[]byte{}, api.Pid{Id: 3, Inc: 1}, []byte{3, 1}},
		{[]byte{7}, api.Pid{Id: 3, Inc: 300}, []byte{7, 3, 0xac, 2}},
		{[]byte{0x80}, api.Pid{Id: 127, Inc: 128}, []byte{0x80, 0x7f, 0x80, 1}},
		{nil, api.Pid{Id: 128, Inc: 127}, []byte{0x80, 1, 0x7f}},
		{nil, greatest, []byte{0xff, 0xff, 3, 0xff, 0xff, 0xff, 0xff, 0x0f}},
	} {
		if got := pid.Put(c.b, c.p); !bytes.Equal(got, c.want) {
			t.Errorf("Put(% x, %v) = % x, not % x", c.b, c.p, got, c.want)
		}
	}
	for _, p := range processes() {
		if got, want := pid.Put(nil, p), form(uint64(p.Id), uint64(p.Inc)); !bytes.Equal(got, want) {
			t.Errorf("Put of %v = % x, not % x", p, got, want)
		}
	}
}

func TestPutIsNewMemory(t *testing.T) {
	for _, p := range []api.Pid{none, {Id: 3, Inc: 300}, greatest} {
		room := bytes.Repeat([]byte{7}, 32)
		got := pid.Put(room[:3], p)
		first := bytes.Clone(got)
		if !bytes.Equal(room, bytes.Repeat([]byte{7}, 32)) {
			t.Fatalf("Put has changed b, or the room behind it: % x", room)
		}
		clear(room)
		if !bytes.Equal(got, first) {
			t.Fatalf("the answer shares b's memory: % x", got)
		}
	}
}

func TestGet(t *testing.T) {
	for _, p := range processes() {
		b := form(uint64(p.Id), uint64(p.Inc))
		for _, behind := range [][]byte{nil, {0}, {0x80}, {9, 9}, {255, 255, 255}, b} {
			all := slices.Concat(b, behind)
			if got, used, e := pid.Get(all); got != p || used != len(b) || e != api.OK {
				t.Errorf("Get(% x) = %v, %d, %d", all, got, used, e)
			}
			if !bytes.Equal(all, slices.Concat(b, behind)) {
				t.Errorf("Get has changed b: % x", all)
			}
		}
		// The room behind the length has what is missing, but isn't read.
		for cut := range b {
			if got, used, e := pid.Get(b[:cut]); got != none || used != 0 || e != api.ErrShort {
				t.Errorf("Get(% x) = %v, %d, %d", b[:cut], got, used, e)
			}
		}
		if got, used, e := pid.Get(pid.Put([]byte{5}, p)[1:]); got != p || used != len(b) || e != api.OK {
			t.Errorf("%v is read as %v, %d, %d", p, got, used, e)
		}
	}
	if p, used, e := pid.Get(nil); p != none || used != 0 || e != api.ErrShort {
		t.Errorf("Get(nil) = %v, %d, %d", p, used, e)
	}
}

func TestGetOfTooGreatOnes(t *testing.T) {
	great := []uint64{1 << 32, 1<<32 + 1, 1 << 33, 1 << 48, 1 << 62, 1 << 63, math.MaxUint64 - 1, math.MaxUint64}
	greatIds := append([]uint64{1 << 16, 1<<16 + 1, 1<<16 + 3, 1 << 17, 1<<31 - 1, 1<<32 - 1}, great...)
	var l [][]byte
	for _, id := range greatIds {
		for _, inc := range append([]uint64{0, 1, 300, 1<<32 - 1}, great...) {
			l = append(l, form(id, inc))
		}
	}
	for _, inc := range great {
		for _, id := range []uint64{0, 1, 3, 1<<16 - 1} {
			l = append(l, form(id, inc))
		}
	}
	for _, b := range l {
		for _, all := range [][]byte{b, append(bytes.Clone(b), 1, 1)} {
			if p, used, e := pid.Get(all); p != none || used != 0 || e != api.ErrForm {
				t.Errorf("Get(% x) = %v, %d, %d", all, p, used, e)
			}
		}
	}
}

func TestGetOfNoForm(t *testing.T) {
	on := bytes.Repeat([]byte{0x80}, 9) // bytes that go on, but for a tenth
	for _, c := range []struct {
		b []byte
		e api.Errno
	}{
		{[]byte{0x80, 0}, api.ErrForm},
		{[]byte{0x80, 0, 1}, api.ErrForm},
		{[]byte{0x83, 0x80, 0, 1}, api.ErrForm},
		{[]byte{3, 0x80, 0}, api.ErrForm},
		{[]byte{3, 0x81, 0, 1}, api.ErrForm},
		{append(bytes.Clone(on), 2, 1), api.ErrForm},
		{append(bytes.Clone(on), 0x81, 1, 1), api.ErrForm},
		{append([]byte{3}, append(bytes.Clone(on), 2)...), api.ErrForm},
		{append([]byte{3}, append(bytes.Clone(on), 0x81)...), api.ErrForm},
		{on, api.ErrShort},
		{append([]byte{3}, on...), api.ErrShort},
		{[]byte{3}, api.ErrShort},
		{[]byte{0x83}, api.ErrShort},
		{[]byte{3, 0x81}, api.ErrShort},
	} {
		if p, used, e := pid.Get(c.b); p != none || used != 0 || e != c.e {
			t.Errorf("Get(% x) = %v, %d, %d", c.b, p, used, e)
		}
	}
}

// TestGetTellsShortFirst: where the Id is too great and the Inc ends too early, layer 1's error is the one that is named first.
func TestGetTellsShortFirst(t *testing.T) {
	for _, id := range []uint64{1 << 16, 1 << 32, math.MaxUint64} {
		b := form(id, 300)
		for cut := range b {
			if p, used, e := pid.Get(b[:cut]); p != none || used != 0 || e != api.ErrShort {
				t.Errorf("Get(% x) = %v, %d, %d", b[:cut], p, used, e)
			}
		}
	}
}

// TestFormIsOne: of all rows of three bytes, each that is read begins with just the form that is laid.
func TestFormIsOne(t *testing.T) {
	read := 0
	for row := range 1 << 24 {
		b := []byte{byte(row), byte(row >> 8), byte(row >> 16)}
		p, used, e := pid.Get(b)
		switch {
		case e == api.OK:
			if used < 2 || used > 3 || !bytes.Equal(pid.Put(nil, p), b[:used]) {
				t.Fatalf("Get(% x) = %v, %d", b, p, used)
			}
			read++
		case p != none || used != 0 || e != api.ErrShort && e != api.ErrForm:
			t.Fatalf("Get(% x) = %v, %d, %d", b, p, used, e)
		}
	}
	// Numbers of one byte: 128; of two: 128 * 128 - 128. Behind two of one byte stands any third one.
	if one, two := 128, 128*128-128; read != one*one*256+2*one*two {
		t.Errorf("%d rows are read", read)
	}
}

package bits_test

import (
	"bytes"
	"encoding/binary"
	"encoding/hex"
	"math"
	mathbits "math/bits"
	"testing"

	"choragus/api"
	"choragus/bits"
)

var wrongWidths = []int{math.MinInt, -8, -1, 0, 3, 5, 6, 7, 9, 16, 64, math.MaxInt}

// numbers has those about each power of two, and some between.
func numbers() []uint64 {
	l := []uint64{0, 300, 0x0123456789abcdef, 0xfedcba9876543210}
	for at := range 64 {
		p := uint64(1) << at
		l = append(l, p-1, p, p+1, ^p, -p)
	}
	return l
}

// checkApart asks whether put's answer is new memory, and whether the room behind b's length stays as it was.
func checkApart(t *testing.T, put func(b []byte) []byte) {
	t.Helper()
	room := bytes.Repeat([]byte{7}, 32)
	b := room[:3]
	out := put(b)
	first := bytes.Clone(out)
	if len(out) < 3 || !bytes.Equal(out[:3], []byte{7, 7, 7}) {
		t.Fatalf("b isn't ahead: % x", out)
	}
	if !bytes.Equal(room, bytes.Repeat([]byte{7}, 32)) {
		t.Fatalf("the room behind b was changed: % x", room)
	}
	for at := range room {
		room[at] = 99
	}
	if !bytes.Equal(out, first) {
		t.Fatalf("the answer shares b's memory: % x", out)
	}
	for at := range out {
		out[at] = 55
	}
	if !bytes.Equal(room, bytes.Repeat([]byte{99}, 32)) {
		t.Fatalf("b shares the answer's memory: % x", room)
	}
}

// P1.1

func TestPut(t *testing.T) {
	for _, c := range []struct {
		b     []byte
		n     uint64
		width int
		want  []byte
	}{
		{nil, 258, 2, []byte{1, 2}},
		{nil, 0, 1, []byte{0}},
		{[]byte{}, 0, 8, []byte{0, 0, 0, 0, 0, 0, 0, 0}},
		{[]byte{9, 8}, 0x0102030405060708, 1, []byte{9, 8, 8}},
		{[]byte{9, 8}, 0x0102030405060708, 2, []byte{9, 8, 7, 8}},
		{[]byte{9, 8}, 0x0102030405060708, 4, []byte{9, 8, 5, 6, 7, 8}},
		{[]byte{9, 8}, 0x0102030405060708, 8, []byte{9, 8, 1, 2, 3, 4, 5, 6, 7, 8}},
		{nil, 256, 1, []byte{0}},
		{nil, 65536, 2, []byte{0, 0}},
		{nil, 1 << 32, 4, []byte{0, 0, 0, 0}},
		{nil, math.MaxUint64, 1, []byte{255}},
		{nil, math.MaxUint64, 8, []byte{255, 255, 255, 255, 255, 255, 255, 255}},
	} {
		if got := bits.Put(c.b, c.n, c.width); !bytes.Equal(got, c.want) {
			t.Errorf("Put(% x, %d, %d) = % x, not % x", c.b, c.n, c.width, got, c.want)
		}
	}
}

func TestPutOfNoWidth(t *testing.T) {
	for _, width := range wrongWidths {
		if got := bits.Put([]byte{1, 2, 3}, 5, width); !bytes.Equal(got, []byte{1, 2, 3}) {
			t.Errorf("Put of the width %d = % x", width, got)
		}
		if got := bits.Put(nil, 5, width); len(got) != 0 {
			t.Errorf("Put behind nothing of the width %d = % x", width, got)
		}
	}
}

func TestPutIsNewMemory(t *testing.T) {
	for _, width := range append([]int{1, 2, 4, 8}, wrongWidths...) {
		checkApart(t, func(b []byte) []byte { return bits.Put(b, 0x0102030405060708, width) })
	}
}

func TestGet(t *testing.T) {
	b := []byte{0xf1, 2, 3, 4, 5, 6, 7, 0xf8, 9, 10}
	for _, c := range []struct {
		width int
		want  uint64
	}{{1, 0xf1}, {2, 0xf102}, {4, 0xf1020304}, {8, 0xf1020304050607f8}} {
		for _, part := range [][]byte{b, b[:c.width]} {
			if n, e := bits.Get(part, c.width); n != c.want || e != api.OK {
				t.Errorf("Get(% x, %d) = %x, %d", part, c.width, n, e)
			}
		}
		// The room behind the length has enough bytes, but isn't read.
		if n, e := bits.Get(b[:c.width-1], c.width); n != 0 || e != api.ErrShort {
			t.Errorf("Get of %d bytes, width %d = %x, %d", c.width-1, c.width, n, e)
		}
		if n, e := bits.Get(nil, c.width); n != 0 || e != api.ErrShort {
			t.Errorf("Get of nothing, width %d = %x, %d", c.width, n, e)
		}
	}
	if !bytes.Equal(b, []byte{0xf1, 2, 3, 4, 5, 6, 7, 0xf8, 9, 10}) {
		t.Errorf("Get has changed b: % x", b)
	}
}

func TestGetOfNoWidth(t *testing.T) {
	for _, width := range wrongWidths {
		for _, b := range [][]byte{nil, {}, {1}, bytes.Repeat([]byte{1}, 100)} {
			if n, e := bits.Get(b, width); n != 0 || e != api.ErrArg {
				t.Errorf("Get of %d bytes, width %d = %d, %d", len(b), width, n, e)
			}
		}
	}
}

func TestPutThenGet(t *testing.T) {
	for _, n := range numbers() {
		for _, width := range []int{1, 2, 4, 8} {
			got, e := bits.Get(bits.Put(nil, n, width), width)
			if want := n << (64 - 8*width) >> (64 - 8*width); got != want || e != api.OK {
				t.Errorf("%x in %d bytes is read as %x, %d", n, width, got, e)
			}
		}
	}
}

// P1.2

func TestPutShort(t *testing.T) {
	for _, c := range []struct {
		b    []byte
		n    uint64
		want []byte
	}{
		{nil, 0, []byte{0}},
		{[]byte{}, 1, []byte{1}},
		{nil, 127, []byte{0x7f}},
		{nil, 128, []byte{0x80, 1}},
		{[]byte{5, 0x80}, 300, []byte{5, 0x80, 0xac, 2}},
		{nil, 16383, []byte{0xff, 0x7f}},
		{nil, 16384, []byte{0x80, 0x80, 1}},
		{nil, 1 << 63, []byte{0x80, 0x80, 0x80, 0x80, 0x80, 0x80, 0x80, 0x80, 0x80, 1}},
		{nil, math.MaxUint64, []byte{255, 255, 255, 255, 255, 255, 255, 255, 255, 1}},
	} {
		if got := bits.PutShort(c.b, c.n); !bytes.Equal(got, c.want) {
			t.Errorf("PutShort(% x, %d) = % x, not % x", c.b, c.n, got, c.want)
		}
	}
	for _, n := range numbers() {
		if got, want := bits.PutShort(nil, n), binary.AppendUvarint(nil, n); !bytes.Equal(got, want) {
			t.Errorf("PutShort of %d = % x, not % x", n, got, want)
		}
	}
}

func TestPutShortIsNewMemory(t *testing.T) {
	for _, n := range []uint64{0, 127, 128, math.MaxUint64} {
		checkApart(t, func(b []byte) []byte { return bits.PutShort(b, n) })
	}
}

func TestGetShort(t *testing.T) {
	for _, n := range numbers() {
		b := bits.PutShort(nil, n)
		for _, behind := range [][]byte{nil, {0}, {0x80}, {255, 255}, bytes.Repeat([]byte{1}, 12)} {
			all := append(bytes.Clone(b), behind...)
			if got, used, e := bits.GetShort(all); got != n || used != len(b) || e != api.OK {
				t.Errorf("GetShort(% x) = %d, %d, %d", all, got, used, e)
			}
		}
		for k := range b {
			if got, used, e := bits.GetShort(b[:k]); got != 0 || used != 0 || e != api.ErrShort {
				t.Errorf("GetShort of % x, cut to %d = %d, %d, %d", b, k, got, used, e)
			}
		}
	}
	if _, _, e := bits.GetShort(nil); e != api.ErrShort {
		t.Errorf("GetShort(nil): %d", e)
	}
}

func TestGetShortAtItsEdges(t *testing.T) {
	// Behind 9 bytes that go on: the last one, and what is to be answered.
	for _, c := range []struct {
		first byte
		last  []byte
		n     uint64
		used  int
		e     api.Errno
	}{
		{0x80, nil, 0, 0, api.ErrShort},
		{0xff, nil, 0, 0, api.ErrShort},
		{0x80, []byte{0}, 0, 0, api.ErrForm},
		{0xff, []byte{0}, 0, 0, api.ErrForm},
		{0x80, []byte{1}, 1 << 63, 10, api.OK},
		{0xff, []byte{1}, math.MaxUint64, 10, api.OK},
		{0xff, []byte{1, 0x80}, math.MaxUint64, 10, api.OK},
		{0x80, []byte{2}, 0, 0, api.ErrForm},
		{0xff, []byte{3}, 0, 0, api.ErrForm},
		{0x80, []byte{0x7f}, 0, 0, api.ErrForm},
		{0x80, []byte{0x80}, 0, 0, api.ErrForm},
		{0x80, []byte{0x81}, 0, 0, api.ErrForm},
		{0x80, []byte{0x80, 0x80}, 0, 0, api.ErrForm},
		{0xff, []byte{0x80, 1}, 0, 0, api.ErrForm},
		{0xff, []byte{0x81, 0}, 0, 0, api.ErrForm},
		{0xff, []byte{0xff}, 0, 0, api.ErrForm},
	} {
		b := append(bytes.Repeat([]byte{c.first}, 9), c.last...)
		if n, used, e := bits.GetShort(b); n != c.n || used != c.used || e != c.e {
			t.Errorf("GetShort(% x) = %d, %d, %d", b, n, used, e)
		}
	}
	for k := 1; k < 10; k++ {
		b := append(bytes.Repeat([]byte{0x81}, k), 0)
		if n, used, e := bits.GetShort(b); n != 0 || used != 0 || e != api.ErrForm {
			t.Errorf("GetShort(% x) = %d, %d, %d", b, n, used, e)
		}
	}
}

// TestShortFormIsOne: of all rows of three bytes, each that is read begins with just the form that is laid.
func TestShortFormIsOne(t *testing.T) {
	for row := range 1 << 24 {
		b := []byte{byte(row), byte(row >> 8), byte(row >> 16)}
		n, used, e := bits.GetShort(b)
		switch e {
		case api.OK:
			if used < 1 || !bytes.Equal(bits.PutShort(nil, n), b[:used]) {
				t.Fatalf("GetShort(% x) = %d, %d", b, n, used)
			}
		case api.ErrForm:
			if b[0] < 0x80 || b[1] != 0 && (b[1] < 0x80 || b[2] != 0) {
				t.Fatalf("GetShort(% x): ErrForm", b)
			}
		case api.ErrShort:
			if b[0]&b[1]&b[2] < 0x80 {
				t.Fatalf("GetShort(% x): ErrShort", b)
			}
		default:
			t.Fatalf("GetShort(% x): %d", b, e)
		}
	}
}

// P1.3

func TestZigAndZag(t *testing.T) {
	for n, zigzag := range map[int64]uint64{
		0: 0, -1: 1, 1: 2, -2: 3, 2: 4, 150: 300, -151: 301,
		math.MaxInt64: math.MaxUint64 - 1, math.MinInt64: math.MaxUint64,
	} {
		if got := bits.Zig(n); got != zigzag {
			t.Errorf("Zig(%d) = %d", n, got)
		}
		if got := bits.Zag(zigzag); got != n {
			t.Errorf("Zag(%d) = %d", zigzag, got)
		}
	}
	for _, n := range numbers() {
		if got := bits.Zig(bits.Zag(n)); got != n {
			t.Errorf("Zig(Zag(%d)) = %d", n, got)
		}
		if got := bits.Zag(bits.Zig(int64(n))); got != int64(n) {
			t.Errorf("Zag(Zig(%d)) = %d", int64(n), got)
		}
	}
}

func TestNarrow(t *testing.T) {
	for _, c := range []struct {
		n     uint64
		width int
		want  uint64
		whole bool
	}{
		{0, 1, 0, true}, {255, 1, 255, true}, {256, 1, 0, false}, {511, 1, 255, false},
		{65535, 2, 65535, true}, {65536, 2, 0, false}, {65537, 2, 1, false},
		{1<<32 - 1, 4, 1<<32 - 1, true}, {1 << 32, 4, 0, false}, {math.MaxUint64, 4, 1<<32 - 1, false},
		{1 << 32, 8, 1 << 32, true}, {math.MaxUint64, 8, math.MaxUint64, true},
	} {
		if got, whole := bits.Narrow(c.n, c.width); got != c.want || whole != c.whole {
			t.Errorf("Narrow(%d, %d) = %d, %t", c.n, c.width, got, whole)
		}
	}
	for _, width := range wrongWidths {
		for _, n := range []uint64{0, 1, math.MaxUint64} {
			if got, whole := bits.Narrow(n, width); got != 0 || whole {
				t.Errorf("Narrow(%d, %d) = %d, %t", n, width, got, whole)
			}
		}
	}
}

func TestTop(t *testing.T) {
	for n, want := range map[uint64]int{0: 0, 1: 1, 2: 2, 3: 2, 4: 3, 255: 8, 256: 9, 1 << 63: 64, math.MaxUint64: 64} {
		if got := bits.Top(n); got != want {
			t.Errorf("Top(%d) = %d", n, got)
		}
	}
	for _, n := range numbers() {
		if got := bits.Top(n); got != mathbits.Len64(n) {
			t.Errorf("Top(%d) = %d", n, got)
		}
	}
}

func TestTurn(t *testing.T) {
	for _, c := range []struct {
		n    uint64
		by   int
		want uint64
	}{
		{1, -1, 1 << 63}, {1, 1, 2}, {1, 63, 1 << 63}, {1 << 63, 1, 1},
		{5, 0, 5}, {5, 64, 5}, {5, -64, 5}, {5, 65, 10}, {5, -65, 1<<63 | 2},
		{5, math.MinInt, 5}, {5, math.MaxInt, 1<<63 | 2}, {0, 7, 0}, {math.MaxUint64, 7, math.MaxUint64},
		{0x0123456789abcdef, 8, 0x23456789abcdef01}, {0x0123456789abcdef, -8, 0xef0123456789abcd},
	} {
		if got := bits.Turn(c.n, c.by); got != c.want {
			t.Errorf("Turn(%x, %d) = %x", c.n, c.by, got)
		}
	}
	for by := -200; by <= 200; by++ {
		n := uint64(0x0123456789abcdef)
		if got := bits.Turn(n, by); got != mathbits.RotateLeft64(n, by) {
			t.Errorf("Turn(%x, %d) = %x", n, by, got)
		}
	}
}

// P1.4

func TestHex(t *testing.T) {
	all := make([]byte, 256)
	for at := range all {
		all[at] = byte(at)
	}
	for _, b := range [][]byte{nil, {}, {0}, {0x0f}, {0xf0}, {0xab, 0x01}, all} {
		s := bits.Hex(b)
		if s != hex.EncodeToString(b) {
			t.Errorf("Hex(% x) = %q", b, s)
		}
		if got, e := bits.Unhex(s); !bytes.Equal(got, b) || e != api.OK {
			t.Errorf("Unhex(%q) = % x, %d", s, got, e)
		}
	}
	for at := range all {
		if all[at] != byte(at) {
			t.Fatal("Hex has changed b")
		}
	}
}

func TestUnhexOfNone(t *testing.T) {
	for _, s := range []string{"0", "000", "0g", "g0", "AA", "aA", "Aa", "0x", " 0", "0 ", "00 ", "00\n", "\x00\x00",
		"é", "-1", "+1", "0_", "/0", "0:", "`0", "0@", "ab0", "abzz", "00G0", "\xff\xff"} {
		if b, e := bits.Unhex(s); len(b) != 0 || e != api.ErrForm {
			t.Errorf("Unhex(%q) = % x, %d", s, b, e)
		}
	}
}

// TestUnhexOfAllPairs: a row of two is read just where it is some byte's Hex.
func TestUnhexOfAllPairs(t *testing.T) {
	want := map[string]byte{}
	for c := range 256 {
		want[bits.Hex([]byte{byte(c)})] = byte(c)
	}
	if len(want) != 256 {
		t.Fatalf("two bytes have the same Hex: %d unlike ones", len(want))
	}
	for pair := range 1 << 16 {
		s := string([]byte{byte(pair >> 8), byte(pair)})
		b, e := bits.Unhex(s)
		c, there := want[s]
		if there && (e != api.OK || !bytes.Equal(b, []byte{c})) || !there && (e != api.ErrForm || len(b) != 0) {
			t.Fatalf("Unhex(%q) = % x, %d", s, b, e)
		}
	}
}

func TestUnhexIsNewMemory(t *testing.T) {
	a, _ := bits.Unhex("0102")
	a[0] = 9
	if b, e := bits.Unhex("0102"); !bytes.Equal(b, []byte{1, 2}) || e != api.OK {
		t.Errorf("a second Unhex tells what was written into the first one's answer: % x", b)
	}
}

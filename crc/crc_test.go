package crc_test

import (
	"bytes"
	"encoding/binary"
	"hash/crc32"
	"testing"

	"choragus/api"
	"choragus/crc"
)

const check = 0xcbf43926 // the sum of "123456789"

// row has n bytes, of all values.
func row(n int) []byte {
	b := make([]byte, n)
	for at := range b {
		b[at] = byte(at*167 + at/256*13 + 5)
	}
	return b
}

// P2.1

func TestSum(t *testing.T) {
	for _, c := range []struct {
		parts [][]byte
		want  uint32
	}{
		{nil, 0},
		{[][]byte{}, 0},
		{[][]byte{nil}, 0},
		{[][]byte{{}, nil, {}}, 0},
		{[][]byte{{0}}, 0xd202ef8d},
		{[][]byte{{0, 0, 0, 0}}, 0x2144df1c},
		{[][]byte{{0xff}}, 0xff000000},
		{[][]byte{{0xff, 0xff, 0xff, 0xff}}, 0xffffffff},
		{[][]byte{[]byte("a")}, 0xe8b7be43},
		{[][]byte{[]byte("123456789")}, check},
		{[][]byte{[]byte("123456"), []byte("789")}, check},
		{[][]byte{nil, []byte("1"), {}, []byte("2345678"), nil, []byte("9"), {}}, check},
	} {
		if got := crc.Sum(c.parts...); got != c.want {
			t.Errorf("Sum(%q) = %08x, not %08x", c.parts, got, c.want)
		}
	}
	if got := crc.Sum(); got != 0 {
		t.Errorf("Sum of no part = %08x", got)
	}
	if got := crc.Sum([]byte("789"), []byte("123456")); got == check {
		t.Error("Sum doesn't tell the parts' order")
	}
}

func TestSumOfLongOnes(t *testing.T) {
	for _, n := range []int{1, 2, 3, 4, 5, 7, 8, 9, 63, 64, 65, 255, 256, 257, 4096, 100000} {
		b := row(n)
		if got, want := crc.Sum(b), crc32.ChecksumIEEE(b); got != want {
			t.Errorf("the sum of %d bytes = %08x, not %08x", n, got, want)
		}
	}
}

func TestSumOfAnyParts(t *testing.T) {
	b := row(40)
	want := crc32.ChecksumIEEE(b)
	for first := range len(b) + 1 {
		for second := first; second <= len(b); second++ {
			if got := crc.Sum(b[:first], b[first:second], b[second:]); got != want {
				t.Fatalf("parted at %d and %d: %08x, not %08x", first, second, got, want)
			}
		}
	}
}

func TestBeginAndEnd(t *testing.T) {
	if got := crc.Begin(); got != 0xffffffff {
		t.Errorf("Begin() = %08x", got)
	}
	for sum, want := range map[uint32]uint32{
		0: 0xffffffff, 0xffffffff: 0, 1: 0xfffffffe, 0x12345678: 0xedcba987, 0x80000000: 0x7fffffff,
	} {
		if got := crc.End(sum); got != want {
			t.Errorf("End(%08x) = %08x", sum, got)
		}
	}
}

func TestGo(t *testing.T) {
	for _, c := range []struct {
		sum  uint32
		b    []byte
		want uint32
	}{
		{0, nil, 0},
		{0, []byte{}, 0},
		{0x12345678, nil, 0x12345678},
		{0, []byte{0}, 0},
		{0, []byte{1}, 0x77073096},
		{0, []byte{0x80}, 0xedb88320},
		{0, []byte{0xff}, 0x2d02ef8d},
		{1, []byte{1}, 0},
		{0x100, []byte{0}, 1},
		{0xff000000, []byte{0}, 0x00ff0000},
		{0x80000000, []byte{0x80, 0}, goBits(goBits(0x80000000, 0x80), 0)},
		{0xffffffff, []byte("123456789"), ^uint32(check)},
	} {
		if got := crc.Go(c.sum, c.b); got != c.want {
			t.Errorf("Go(%08x, % x) = %08x, not %08x", c.sum, c.b, got, c.want)
		}
	}
}

// goBits is the chapter's rule by a division that takes the bits one by one: each is held against the one that falls out.
func goBits(sum uint32, c byte) uint32 {
	for place := range 8 {
		turned := (sum ^ uint32(c>>place)) & 1
		sum = sum>>1 ^ turned*0xedb88320
	}
	return sum
}

func TestGoOfAllBytes(t *testing.T) {
	for _, sum := range []uint32{0, 1, 0xff, 0x80000000, 0xffffffff, 0x12345678, 0xedb88320} {
		for c := range 256 {
			if got, want := crc.Go(sum, []byte{byte(c)}), goBits(sum, byte(c)); got != want {
				t.Fatalf("Go(%08x, %02x) = %08x, not %08x", sum, c, got, want)
			}
		}
	}
}

func TestSumIsGoneThrough(t *testing.T) {
	b := row(50)
	for cut := range len(b) + 1 {
		first, second := b[:cut], b[cut:]
		if got, want := crc.End(crc.Go(crc.Go(crc.Begin(), first), second)), crc.Sum(first, second); got != want {
			t.Fatalf("cut at %d: %08x, not %08x", cut, got, want)
		}
	}
}

func TestSumChangesNothing(t *testing.T) {
	room := row(30)
	parts := [][]byte{room[:10], room[10:20], nil}
	crc.Sum(parts...)
	crc.Go(7, room[:10])
	if !bytes.Equal(room, row(30)) || len(parts) != 3 || !bytes.Equal(parts[0], room[:10]) || parts[2] != nil {
		t.Error("what was handed in was changed")
	}
	// What stands behind the length has no part in the sum.
	want := crc.Sum(room[:10])
	room[10]++
	if got := crc.Sum(room[:10]); got != want {
		t.Error("the room behind the length was read")
	}
}

// P2.2

func TestSeal(t *testing.T) {
	for _, c := range []struct{ b, want []byte }{
		{nil, []byte{0, 0, 0, 0}},
		{[]byte{}, []byte{0, 0, 0, 0}},
		{[]byte{0}, []byte{0, 0xd2, 0x02, 0xef, 0x8d}},
		{[]byte("123456789"), []byte("123456789\xcb\xf4\x39\x26")},
	} {
		if got := crc.Seal(c.b); !bytes.Equal(got, c.want) {
			t.Errorf("Seal(% x) = % x", c.b, got)
		}
	}
	for n := range 70 {
		b := row(n)
		if got, want := crc.Seal(b), binary.BigEndian.AppendUint32(row(n), crc32.ChecksumIEEE(b)); !bytes.Equal(got, want) {
			t.Errorf("Seal of %d bytes = % x, not % x", n, got, want)
		}
	}
}

func TestSealIsNewMemory(t *testing.T) {
	room := row(30)
	out := crc.Seal(room[:10])
	first := bytes.Clone(out)
	if !bytes.Equal(room, row(30)) {
		t.Fatalf("Seal has changed b, or the room behind it: % x", room)
	}
	clear(room)
	if !bytes.Equal(out, first) {
		t.Error("the answer shares b's memory")
	}
}

func TestOpen(t *testing.T) {
	for n := range 70 {
		b := row(n)
		got, e := crc.Open(crc.Seal(b))
		if e != api.OK || !bytes.Equal(got, b) {
			t.Errorf("what was sealed of %d bytes is opened as % x, %d", n, got, e)
		}
		twice, e := crc.Open(crc.Seal(crc.Seal(b)))
		if e != api.OK || !bytes.Equal(twice, crc.Seal(b)) {
			t.Errorf("what was sealed twice of %d bytes is opened as % x, %d", n, twice, e)
		}
	}
	if got, e := crc.Open([]byte{0, 0, 0, 0}); len(got) != 0 || e != api.OK {
		t.Errorf("four zero bytes, nothing sealed, are opened as % x, %d", got, e)
	}
}

func TestOpenOfShortOnes(t *testing.T) {
	room := crc.Seal(nil) // four bytes: those behind the length aren't read
	for n := range 4 {
		for _, b := range [][]byte{room[:n], row(n), bytes.Repeat([]byte{0xff}, n)} {
			if got, e := crc.Open(b); len(got) != 0 || e != api.ErrShort {
				t.Errorf("Open(% x) = % x, %d", b, got, e)
			}
		}
	}
	if got, e := crc.Open(nil); len(got) != 0 || e != api.ErrShort {
		t.Errorf("Open(nil) = % x, %d", got, e)
	}
}

func TestOpenOfWrongSums(t *testing.T) {
	sealed := crc.Seal([]byte("123456789"))
	for _, b := range [][]byte{
		{0, 0, 0, 1}, {1, 0, 0, 0}, {0xff, 0xff, 0xff, 0xff},
		{0, 0x8d, 0xef, 0x02, 0xd2}, // the lowest byte first
		{0, 0x2d, 0xfd, 0x10, 0x72}, // not turned at last
		[]byte("123456789\xcb\xf4\x39\x27"),
		[]byte("123456789\xcb\xf4\x39\x26\x00"),
		[]byte("\xcb\xf4\x39\x26123456789"),
		[]byte("213456789\xcb\xf4\x39\x26"),
		sealed[1:], sealed[:len(sealed)-1], sealed[:4],
		row(9),
	} {
		if got, e := crc.Open(b); len(got) != 0 || e != api.ErrSum {
			t.Errorf("Open(% x) = % x, %d", b, got, e)
		}
	}
}

func TestOpenIsNewMemory(t *testing.T) {
	room := append(crc.Seal(row(10)), 7, 7, 7)
	before := bytes.Clone(room)
	out, e := crc.Open(room[:14])
	if e != api.OK || !bytes.Equal(out, row(10)) {
		t.Fatalf("opened as % x, %d", out, e)
	}
	if !bytes.Equal(room, before) {
		t.Fatal("Open has changed what it was handed")
	}
	out = append(out, 99)
	clear(out)
	if !bytes.Equal(room, before) {
		t.Error("b shares the answer's memory")
	}
	out, _ = crc.Open(room[:14])
	clear(room)
	if !bytes.Equal(out, row(10)) {
		t.Error("the answer shares b's memory")
	}
}

// P2.3

// TestOneByteTurned: at each place of bytes of some lengths, each other byte makes another sum.
func TestOneByteTurned(t *testing.T) {
	for _, n := range []int{1, 2, 3, 4, 5, 9, 60} {
		b := row(n)
		sum := crc.Sum(b)
		for at := range b {
			was := b[at]
			for turn := 1; turn < 256; turn++ {
				b[at] = was ^ byte(turn)
				if crc.Sum(b) == sum {
					t.Fatalf("of %d bytes, the one at %d turned by %02x: the same sum", n, at, turn)
				}
			}
			b[at] = was
		}
	}
}

// TestOneByteTurnedIsNotOpened: what was sealed isn't opened with another byte at any place, those of the sum among them.
func TestOneByteTurnedIsNotOpened(t *testing.T) {
	for _, n := range []int{0, 1, 2, 3, 4, 5, 20} {
		b := crc.Seal(row(n))
		for at := range b {
			was := b[at]
			for turn := 1; turn < 256; turn++ {
				b[at] = was ^ byte(turn)
				if got, e := crc.Open(b); len(got) != 0 || e != api.ErrSum {
					t.Fatalf("of %d bytes sealed, the one at %d turned by %02x: % x, %d", n, at, turn, got, e)
				}
			}
			b[at] = was
		}
	}
}

// TestOneByteOfManyTurned: the lowest and highest bits of bytes far from the end.
func TestOneByteOfManyTurned(t *testing.T) {
	b := row(4096)
	sum := crc.Sum(b)
	for at := range b {
		for _, turn := range []byte{1, 0x80, 0xff} {
			b[at] ^= turn
			if crc.Sum(b) == sum {
				t.Fatalf("the byte at %d turned by %02x: the same sum", at, turn)
			}
			b[at] ^= turn
		}
	}
}

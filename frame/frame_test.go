package frame_test

import (
	"bytes"
	"encoding/binary"
	"hash/crc32"
	"math"
	"testing"

	"choragus/api"
	"choragus/frame"
)

var (
	one  = api.Pid{Id: 1, Inc: 1}
	two  = api.Pid{Id: 2, Inc: 1}
	far  = api.Pid{Id: api.MaxProcs - 1, Inc: math.MaxUint32}
	none = api.Packet{}
)

// row has n bytes, of all values.
func row(n int) []byte {
	b := make([]byte, n)
	for at := range b {
		b[at] = byte(at*167 + at/256*13 + 5)
	}
	return b
}

// sealed answers b with its sum behind it.
func sealed(b []byte) []byte {
	return binary.BigEndian.AppendUint32(bytes.Clone(b), crc32.ChecksumIEEE(b))
}

// framed answers a form of that Kind around what stands between its head and its sum.
func framed(kind byte, inner []byte) []byte {
	b := []byte{0x56, 0x53, 1, kind}
	b = binary.BigEndian.AppendUint32(b, uint32(12+len(inner)))
	return sealed(append(b, inner...))
}

// numbers answers the short forms of all, one behind the other.
func numbers(all ...uint64) []byte {
	var b []byte
	for _, n := range all {
		b = binary.AppendUvarint(b, n)
	}
	return b
}

// innerOf answers what stands between head and sum of p's form.
func innerOf(p api.Packet) []byte {
	b := numbers(uint64(p.From.Id), uint64(p.From.Inc), uint64(p.To.Id), uint64(p.To.Inc), p.Seq)
	return append(b, p.Body...)
}

// formOf answers p's form, made without package frame.
func formOf(p api.Packet) []byte {
	return framed(byte(p.Kind), innerOf(p))
}

// packets answers packets that may be, each with the least and the greatest of a field.
func packets() []api.Packet {
	var all []api.Packet
	pids := []api.Pid{one, two, far, {Id: 0, Inc: 1}, {Id: 15, Inc: 127}, {Id: 7, Inc: 128}, {Id: 9, Inc: 300}, {Id: 3, Inc: 1 << 31}}
	for at, from := range pids {
		for _, to := range []api.Pid{pids[(at+1)%len(pids)], far, from} {
			for _, kind := range []int{api.PackBeat, api.PackData, api.PackAck} {
				for _, seq := range []uint64{0, 1, 5, 127, 128, 16384, 1 << 40, api.Ceiling, math.MaxUint64 - 1, math.MaxUint64} {
					for _, n := range []int{0, 1, 2, 5, 255, 256} {
						all = append(all, api.Packet{Kind: kind, From: from, To: to, Seq: seq, Body: row(n)})
					}
				}
			}
		}
	}
	for _, n := range []int{4079, api.MaxBody - 1, api.MaxBody} {
		all = append(all, api.Packet{Kind: api.PackData, From: far, To: far, Seq: math.MaxUint64, Body: row(n)})
	}
	return all
}

// packet answers the packet of a PackData from 1.1 to 2.1 with that Body.
func packet(body []byte) api.Packet {
	return api.Packet{Kind: api.PackData, From: one, To: two, Seq: 5, Body: body}
}

// P6.1

// wrongOnes answers packets that may not be, and what Check says of them.
func wrongOnes() []struct {
	p    api.Packet
	want api.Errno
} {
	long := row(api.MaxBody + 1)
	type wrong = struct {
		p    api.Packet
		want api.Errno
	}
	all := []wrong{
		{none, api.ErrArg},
		{packet(long), api.ErrLong},
		{packet(row(2 * api.MaxBody)), api.ErrLong},
		{packet(row(1 << 20)), api.ErrLong},
	}
	for _, kind := range []int{0, 4, -1, 9, 255, 256, 257, 258, 259, 1<<32 + 1, 1<<40 + 2, math.MaxInt, math.MinInt, math.MinInt + 1} {
		for _, body := range [][]byte{nil, row(3), long} {
			all = append(all, wrong{api.Packet{Kind: kind, From: one, To: two, Seq: 5, Body: body}, api.ErrArg})
		}
	}
	for _, p := range []api.Pid{{}, {Id: 1}, {Id: 15}, {Id: 16, Inc: 1}, {Id: 17, Inc: 1}, {Id: 256, Inc: 1}, {Id: 65535, Inc: math.MaxUint32}, {Id: 16}} {
		for _, body := range [][]byte{nil, row(3), row(api.MaxBody), long} {
			all = append(all,
				wrong{api.Packet{Kind: api.PackBeat, From: p, To: two, Seq: 5, Body: body}, api.ErrArg},
				wrong{api.Packet{Kind: api.PackData, From: one, To: p, Seq: 5, Body: body}, api.ErrArg},
				wrong{api.Packet{Kind: api.PackAck, From: p, To: p, Seq: 5, Body: body}, api.ErrArg})
		}
	}
	return all
}

func TestCheck(t *testing.T) {
	for _, p := range packets() {
		if e := frame.Check(p); e != api.OK {
			t.Errorf("Check(%v) = %d", p, e)
		}
	}
	for _, c := range wrongOnes() {
		if e := frame.Check(c.p); e != c.want {
			t.Errorf("Check of Kind %d, From %v, To %v, %d bytes = %d, not %d", c.p.Kind, c.p.From, c.p.To, len(c.p.Body), e, c.want)
		}
	}
}

func TestCheckOfAllIdsAndKinds(t *testing.T) {
	for kind := -3; kind <= 260; kind++ {
		want := api.ErrArg
		if kind == 1 || kind == 2 || kind == 3 {
			want = api.OK
		}
		if e := frame.Check(api.Packet{Kind: kind, From: one, To: two}); e != want {
			t.Errorf("Check of Kind %d = %d, not %d", kind, e, want)
		}
	}
	for id := range 1 << 16 {
		p := api.Pid{Id: uint16(id), Inc: 1}
		want := api.ErrArg
		if id < 16 {
			want = api.OK
		}
		if e := frame.Check(api.Packet{Kind: 1, From: p, To: two}); e != want {
			t.Fatalf("Check of From's Id %d = %d, not %d", id, e, want)
		}
		if e := frame.Check(api.Packet{Kind: 1, From: one, To: p}); e != want {
			t.Fatalf("Check of To's Id %d = %d, not %d", id, e, want)
		}
	}
}

func TestEncodeOfTheExample(t *testing.T) {
	b, e := frame.Encode(api.Packet{Kind: api.PackAck, From: one, To: two, Seq: 5})
	want := []byte{0x56, 0x53, 1, 3, 0, 0, 0, 0x11, 1, 1, 2, 1, 5}
	if e != api.OK || len(b) != 17 || !bytes.Equal(b, sealed(want)) {
		t.Errorf("Encode = % x, %d", b, e)
	}
}

func TestEncode(t *testing.T) {
	for _, p := range packets() {
		b, e := frame.Encode(p)
		if want := formOf(p); e != api.OK || !bytes.Equal(b, want) {
			t.Fatalf("Encode(%v) = % x, %d, not % x", p, b, e, want)
		}
	}
}

func TestEncodeOfWhatMayNotBe(t *testing.T) {
	for _, c := range wrongOnes() {
		if b, e := frame.Encode(c.p); e != c.want || len(b) != 0 {
			t.Errorf("Encode of Kind %d, From %v, To %v, %d bytes = %d bytes, %d, not %d", c.p.Kind, c.p.From, c.p.To, len(c.p.Body), len(b), e, c.want)
		}
	}
}

func TestEncodeAnswersNewMemory(t *testing.T) {
	room := row(40)
	before := bytes.Clone(room)
	p := packet(room[:8:40])
	first, _ := frame.Encode(p)
	if !bytes.Equal(room, before) {
		t.Fatal("Encode has changed what it was handed")
	}
	second, _ := frame.Encode(p)
	for at := range first {
		first[at] ^= 255
	}
	_ = append(first, 1, 2, 3)
	if !bytes.Equal(room, before) {
		t.Error("the form shares memory with the Body")
	}
	if !bytes.Equal(second, formOf(packet(before[:8]))) {
		t.Error("two forms share memory")
	}
}

// P6.2

func TestDecode(t *testing.T) {
	for _, want := range packets() {
		p, e := frame.Decode(formOf(want))
		if e != api.OK || p.Kind != want.Kind || p.From != want.From || p.To != want.To || p.Seq != want.Seq || !bytes.Equal(p.Body, want.Body) {
			t.Fatalf("Decode of %v's form = %v, %d", want, p, e)
		}
	}
}

func TestDecodeOfWhatWasEncoded(t *testing.T) {
	for _, want := range packets() {
		b, _ := frame.Encode(want)
		if p, e := frame.Decode(b); e != api.OK || !frame.Same(p, want) {
			t.Fatalf("Decode of what %v was encoded as = %v, %d", want, p, e)
		}
	}
}

// notDecoded fails if b is anybody's form, or another error than want is told, or not all of the packet is zero.
func notDecoded(t *testing.T, what string, b []byte, want api.Errno) {
	t.Helper()
	p, e := frame.Decode(b)
	if e != want {
		t.Errorf("%s: Decode(% x) = %d, not %d", what, b[:min(len(b), 40)], e, want)
	}
	if p.Kind != 0 || p.From != (api.Pid{}) || p.To != (api.Pid{}) || p.Seq != 0 || len(p.Body) != 0 {
		t.Errorf("%s: Decode tells %d and a packet %v", what, e, p)
	}
}

func TestDecodeOfTooFewBytes(t *testing.T) {
	whole := formOf(packet(nil))
	for n := range 12 {
		notDecoded(t, "a beginning", whole[:n], api.ErrShort)
		notDecoded(t, "zeros", make([]byte, n), api.ErrShort)
		notDecoded(t, "another beginning", bytes.Repeat([]byte{0xff}, n), api.ErrShort)
		// As many bytes as there are, and a right sum of those ahead: still too few.
		if n >= 8 {
			b := []byte{0x56, 0x53, 1, 1, 0, 0, 0, byte(n)}
			notDecoded(t, "right but for its length", sealed(b[:n-4]), api.ErrShort)
		}
	}
	notDecoded(t, "nil", nil, api.ErrShort)
}

func TestDecodeOfJustTwelveBytes(t *testing.T) {
	for kind := range 256 {
		notDecoded(t, "without an inside", framed(byte(kind), nil), api.ErrForm)
	}
	notDecoded(t, "twelve zeros", make([]byte, 12), api.ErrAlien)
	notDecoded(t, "another number", []byte{0x56, 0x53, 1, 1, 0, 0, 0, 13, 0, 0, 0, 0}, api.ErrForm)
	notDecoded(t, "another sum", []byte{0x56, 0x53, 1, 1, 0, 0, 0, 12, 0, 0, 0, 0}, api.ErrSum)
}

// resealed answers b with a right sum at its end.
func resealed(b []byte) []byte {
	return sealed(b[:len(b)-4])
}

// with answers b with c at a place.
func with(b []byte, at int, c byte) []byte {
	out := bytes.Clone(b)
	out[at] = c
	return out
}

func TestDecodeOfAliens(t *testing.T) {
	whole := formOf(packet(row(9)))
	for at := range 3 {
		for c := range 256 {
			b := with(whole, at, byte(c))
			if bytes.Equal(b, whole) {
				continue
			}
			notDecoded(t, "another beginning", b, api.ErrAlien)
			notDecoded(t, "another beginning with a right sum", resealed(b), api.ErrAlien)
			notDecoded(t, "another beginning and number", resealed(with(b, 7, 99)), api.ErrAlien)
			notDecoded(t, "another beginning and Kind", resealed(with(b, 3, 9)), api.ErrAlien)
			notDecoded(t, "another beginning, cut", b[:12], api.ErrAlien)
		}
	}
	notDecoded(t, "turned about", resealed(append([]byte{1, 0x53, 0x56}, whole[3:]...)), api.ErrAlien)
	notDecoded(t, "a byte ahead", append([]byte{0}, whole...), api.ErrAlien)
}

func TestDecodeOfAnotherNumberOfBytes(t *testing.T) {
	whole := formOf(packet(row(9)))
	for at := 4; at < 8; at++ {
		for c := range 256 {
			b := with(whole, at, byte(c))
			if bytes.Equal(b, whole) {
				continue
			}
			notDecoded(t, "another number", b, api.ErrForm)
			notDecoded(t, "another number with a right sum", resealed(b), api.ErrForm)
			notDecoded(t, "another number and sum", with(b, len(b)-1, b[len(b)-1]^1), api.ErrForm)
		}
	}
	for n := 1; n < 20; n++ {
		more := append(bytes.Clone(whole), row(n)...)
		notDecoded(t, "bytes behind", more, api.ErrForm)
		notDecoded(t, "bytes behind, and a right sum", resealed(more), api.ErrForm)
	}
	notDecoded(t, "twice", append(bytes.Clone(whole), whole...), api.ErrForm)
	// The number is that of the whole form, not of what stands ahead of the sum, nor of what stands behind the head.
	for _, less := range []byte{4, 8, 12} {
		notDecoded(t, "a number of a part", resealed(with(whole, 7, whole[7]-less)), api.ErrForm)
	}
}

func TestDecodeOfAnotherSum(t *testing.T) {
	whole := formOf(packet(row(9)))
	for at := len(whole) - 4; at < len(whole); at++ {
		for turn := 1; turn < 256; turn++ {
			notDecoded(t, "another sum", with(whole, at, whole[at]^byte(turn)), api.ErrSum)
		}
	}
	sum := crc32.ChecksumIEEE(whole[:len(whole)-4])
	ahead := bytes.Clone(whole[:len(whole)-4])
	notDecoded(t, "the lowest byte first", binary.LittleEndian.AppendUint32(ahead, sum), api.ErrSum)
	notDecoded(t, "a sum of zeros", append(ahead, 0, 0, 0, 0), api.ErrSum)
	notDecoded(t, "the sum of what is behind the head", binary.BigEndian.AppendUint32(ahead, crc32.ChecksumIEEE(ahead[8:])), api.ErrSum)
	for kind := range 256 {
		if kind < 1 || kind > 3 {
			notDecoded(t, "another sum and Kind", with(whole, 3, byte(kind)), api.ErrSum)
		}
	}
	bad := framed(2, []byte{0x80, 0x80})
	notDecoded(t, "another sum of what is no form", with(bad, len(bad)-1, bad[len(bad)-1]^1), api.ErrSum)
}

func TestDecodeOfWhatMayNotBe(t *testing.T) {
	for kind := range 256 {
		b := framed(byte(kind), innerOf(packet(row(9))))
		if kind < 1 || kind > 3 {
			notDecoded(t, "another Kind", b, api.ErrForm)
		} else if p, e := frame.Decode(b); e != api.OK || p.Kind != kind {
			t.Errorf("Decode of Kind %d = %v, %d", kind, p, e)
		}
	}
	for _, bad := range [][2]uint64{{1, 0}, {0, 0}, {16, 1}, {17, 1}, {128, 1}, {256, 1}, {65535, 1}, {65536, 1}, {65537, 1}, {1 << 40, 1}, {math.MaxUint64, 1}, {1, 1 << 32}, {1, 1<<32 + 1}, {1, math.MaxUint64}, {16, 0}} {
		notDecoded(t, "From", framed(1, numbers(bad[0], bad[1], 2, 1, 5)), api.ErrForm)
		notDecoded(t, "To", framed(2, numbers(1, 1, bad[0], bad[1], 5)), api.ErrForm)
		notDecoded(t, "both", framed(3, append(numbers(bad[0], bad[1], bad[0], bad[1], 5), row(7)...)), api.ErrForm)
	}
	for _, n := range []int{api.MaxBody + 1, api.MaxBody + 2, 2 * api.MaxBody, 1 << 16, 1 << 20} {
		notDecoded(t, "a Body too long", formOf(packet(row(n))), api.ErrForm)
	}
	if p, e := frame.Decode(formOf(packet(row(api.MaxBody)))); e != api.OK || len(p.Body) != api.MaxBody {
		t.Errorf("Decode of the longest Body's form = %d bytes, %d", len(p.Body), e)
	}
}

func TestDecodeOfFieldsThatAreNone(t *testing.T) {
	good := numbers(1, 300, 2, 70000, math.MaxUint64)
	for n := range good {
		notDecoded(t, "fields that end too early", framed(2, good[:n]), api.ErrForm)
	}
	// Each of the five numbers, its last byte 00 behind one that goes on, or never ending.
	fields := [][]byte{numbers(1), numbers(1), numbers(2), numbers(1), numbers(5)}
	for at := range fields {
		for _, bad := range [][]byte{
			{0x81, 0},
			{0x80, 0},
			{0x81, 0x80, 0},
			bytes.Repeat([]byte{0xff}, 10),
			bytes.Repeat([]byte{0x80}, 20),
			append(bytes.Repeat([]byte{0x80}, 9), 2),
			append(bytes.Repeat([]byte{0x80}, 10), 1),
		} {
			all := append([][]byte{}, fields...)
			all[at] = bad
			notDecoded(t, "a number", framed(2, bytes.Join(all, nil)), api.ErrForm)
			notDecoded(t, "a number, and a Body", framed(2, append(bytes.Join(all, nil), row(30)...)), api.ErrForm)
		}
	}
	// A Seq that goes on would end in the sum, which isn't its own.
	for last := range 256 {
		notDecoded(t, "a Seq that goes on", framed(2, append(numbers(1, 1, 2, 1), 0x80, byte(last)|0x80)), api.ErrForm)
	}
}

// decoded tells what Decode is to answer of what has a right head and sum, made without package frame.
func decoded(kind byte, inner []byte) (api.Packet, bool) {
	var n [5]uint64
	for at := range n {
		v, used := binary.Uvarint(inner)
		if used <= 0 || used > 1 && inner[used-1] == 0 {
			return none, false
		}
		n[at], inner = v, inner[used:]
	}
	if kind < 1 || kind > 3 || n[0] > 15 || n[2] > 15 || n[1]-1 > math.MaxUint32-1 || n[3]-1 > math.MaxUint32-1 || len(inner) > 4096 {
		return none, false
	}
	return api.Packet{Kind: int(kind), From: api.Pid{Id: uint16(n[0]), Inc: uint32(n[1])}, To: api.Pid{Id: uint16(n[2]), Inc: uint32(n[3])}, Seq: n[4], Body: inner}, true
}

func TestDecodeOfManyInsides(t *testing.T) {
	values := []byte{0, 1, 2, 15, 16, 127, 128, 129, 255}
	count := 0
	for n := range 7 {
		inner := make([]byte, n)
		total := 1
		for range n {
			total *= len(values)
		}
		for code := range total {
			for at, left := 0, code; at < n; at++ {
				inner[at] = values[left%len(values)]
				left /= len(values)
			}
			kind := byte(code%4 + 1)
			b := framed(kind, inner)
			p, e := frame.Decode(b)
			want, may := decoded(kind, inner)
			if may {
				count++
			}
			if may != (e == api.OK) || !may && e != api.ErrForm || !frame.Same(p, want) {
				t.Fatalf("Decode of Kind %d, % x = %v, %d, not %v", kind, inner, p, e, want)
			}
			if may && !bytes.Equal(formOf(p), b) {
				t.Fatalf("% x isn't the form of %v", b, p)
			}
		}
	}
	if count < 1000 {
		t.Errorf("but %d of them are forms", count)
	}
}

func TestDecodeAnswersNewMemory(t *testing.T) {
	room := append(formOf(packet(row(20))), row(30)...)
	before := bytes.Clone(room)
	whole := len(room) - 30
	first, e := frame.Decode(room[:whole])
	if e != api.OK || !bytes.Equal(room, before) {
		t.Fatal("Decode has changed what it was handed, or answers", e)
	}
	second, _ := frame.Decode(room[:whole])
	for at := range first.Body {
		first.Body[at] ^= 255
	}
	_ = append(first.Body, 1, 2, 3, 4, 5, 6, 7, 8)
	if !bytes.Equal(room, before) {
		t.Error("the Body shares memory with the form")
	}
	if !bytes.Equal(second.Body, row(20)) {
		t.Error("two Bodies share memory")
	}
	for at := range room {
		room[at] ^= 255
	}
	if !bytes.Equal(second.Body, row(20)) {
		t.Error("the Body changes with the form")
	}
}

func TestDecodeDoesNotReadBehindTheEnd(t *testing.T) {
	room := formOf(packet(row(9)))
	for n := range room {
		if p, e := frame.Decode(room[:n]); e == api.OK {
			t.Errorf("Decode of %d bytes reads those behind: %v", n, p)
		}
	}
	// What stands ahead goes on in the room: a Seq that would be whole there is none.
	inner := append(numbers(1, 1, 2, 1), 0x85)
	b := framed(2, inner)
	notDecoded(t, "a Seq that ends behind", append(b, 1)[:len(b)], api.ErrForm)
}

func TestSame(t *testing.T) {
	p := api.Packet{Kind: 2, From: one, To: two, Seq: 5, Body: []byte{1, 2, 3}}
	others := []api.Packet{
		none,
		{Kind: 3, From: one, To: two, Seq: 5, Body: []byte{1, 2, 3}},
		{Kind: 2, From: two, To: two, Seq: 5, Body: []byte{1, 2, 3}},
		{Kind: 2, From: api.Pid{Id: 1, Inc: 2}, To: two, Seq: 5, Body: []byte{1, 2, 3}},
		{Kind: 2, From: one, To: one, Seq: 5, Body: []byte{1, 2, 3}},
		{Kind: 2, From: one, To: api.Pid{Id: 2, Inc: 2}, Seq: 5, Body: []byte{1, 2, 3}},
		{Kind: 2, From: two, To: one, Seq: 5, Body: []byte{1, 2, 3}},
		{Kind: 2, From: one, To: two, Seq: 6, Body: []byte{1, 2, 3}},
		{Kind: 2, From: one, To: two, Seq: 5 + 1<<32, Body: []byte{1, 2, 3}},
		{Kind: 2, From: one, To: two, Seq: 5, Body: []byte{1, 2, 4}},
		{Kind: 2, From: one, To: two, Seq: 5, Body: []byte{0, 2, 3}},
		{Kind: 2, From: one, To: two, Seq: 5, Body: []byte{1, 2}},
		{Kind: 2, From: one, To: two, Seq: 5, Body: []byte{1, 2, 3, 0}},
		{Kind: 2, From: one, To: two, Seq: 5},
		{Kind: -9, From: api.Pid{Id: 999}, Seq: math.MaxUint64, Body: row(api.MaxBody + 1)},
	}
	others = append(others, p)
	for i, a := range others {
		for j, b := range others {
			b.Body = bytes.Clone(b.Body)
			if got := frame.Same(a, b); got != (i == j) {
				t.Errorf("Same(%v, %v) = %v", a, b, got)
			}
		}
	}
	if !frame.Same(packet(nil), packet([]byte{})) || !frame.Same(packet([]byte{}), packet(nil)) {
		t.Error("a Body of nil and one without bytes aren't the same")
	}
	room := []byte{1, 2, 3, 4}
	if !frame.Same(packet(room[:2]), packet([]byte{1, 2})) {
		t.Error("Same reads the room behind a Body")
	}
}

// P6.3

// spoiltOnes answers some forms: without a Body, with some bytes, with numbers of many bytes.
func spoiltOnes() [][]byte {
	return [][]byte{
		formOf(packet(nil)),
		formOf(packet(row(9))),
		formOf(api.Packet{Kind: 1, From: far, To: far, Seq: math.MaxUint64, Body: []byte{0}}),
		formOf(api.Packet{Kind: 3, From: api.Pid{Id: 0, Inc: 1}, To: one, Body: make([]byte, 30)}),
		formOf(packet(formOf(packet(nil)))),
	}
}

func TestFormsOfWhichOneByteIsAnother(t *testing.T) {
	for _, b := range spoiltOnes() {
		for at := range b {
			want := api.ErrSum
			switch {
			case at < 3:
				want = api.ErrAlien
			case at >= 4 && at < 8:
				want = api.ErrForm
			}
			for turn := 1; turn < 256; turn++ {
				notDecoded(t, "spoilt", with(b, at, b[at]^byte(turn)), want)
			}
		}
	}
}

func TestTheLongestFormSpoilt(t *testing.T) {
	b := formOf(api.Packet{Kind: 2, From: far, To: far, Seq: math.MaxUint64, Body: row(api.MaxBody)})
	for at := range b {
		c := with(b, at, b[at]^byte(1<<(at%8)))
		if _, e := frame.Decode(c); e == api.OK {
			t.Fatalf("Decode of the form with another byte at %d is a packet", at)
		}
		if _, e := frame.Decode(b[:at]); e == api.OK {
			t.Fatalf("Decode of the form's first %d bytes is a packet", at)
		}
	}
}

func TestFormsFromWhoseEndBytesAreMissing(t *testing.T) {
	for _, b := range spoiltOnes() {
		for n := range b {
			want := api.ErrForm
			if n < 12 {
				want = api.ErrShort
			}
			notDecoded(t, "cut", b[:n], want)
			notDecoded(t, "cut, in memory of its own", bytes.Clone(b[:n]), want)
		}
	}
}

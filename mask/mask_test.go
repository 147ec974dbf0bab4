package mask_test

import (
	"math"
	"slices"
	"testing"

	"choragus/api"
	"choragus/mask"
)

var (
	none = api.Mask{}
	all  = api.Mask{math.MaxUint64, math.MaxUint64}
)

// noRanks are numbers that are no rank: next to the ranks, the same as ranks but for higher bits, the least and the greatest.
var noRanks = []int{
	-1, -2, -63, -64, -65, -127, -128, -129,
	128, 129, 191, 192, 193, 255, 256, 1 << 16, 1 << 32, 1<<32 + 5, -1 << 32, 1 << 62,
	math.MinInt, math.MinInt + 1, math.MinInt + 64, math.MaxInt, math.MaxInt - 63, math.MaxInt - 64, math.MaxInt - 127,
}

// plain is a mask told otherwise: of each rank, is it in?
type plain [128]bool

// tell answers m as plain, by the words of the chapter: the bit of the lowest six bits in the number of the seventh.
func tell(m api.Mask) plain {
	var p plain
	for at := range 2 {
		number := m[at]
		for low := range 64 {
			p[at*64+low] = number%2 == 1
			number /= 2
		}
	}
	return p
}

// lay answers p as a mask.
func lay(p plain) api.Mask {
	var m api.Mask
	for at := range 2 {
		for low := 63; low >= 0; low-- {
			m[at] *= 2
			if p[at*64+low] {
				m[at]++
			}
		}
	}
	return m
}

// both answers the plain mask of the ranks for which in is so.
func both(a, b api.Mask, in func(a, b bool) bool) api.Mask {
	var out plain
	p, q := tell(a), tell(b)
	for rank := range out {
		out[rank] = in(p[rank], q[rank])
	}
	return lay(out)
}

// ranksOf answers the ranks of m by looking at each bit.
func ranksOf(m api.Mask) []int {
	var l []int
	for rank, in := range tell(m) {
		if in {
			l = append(l, rank)
		}
	}
	return l
}

// samples answers masks of many kinds: all and none, of one rank, of all but one, of neighbours, of runs, and mixed ones.
func samples() []api.Mask {
	l := []api.Mask{
		none, all, {math.MaxUint64, 0}, {0, math.MaxUint64}, {1, 1}, {1 << 63, 1 << 63}, {1 << 63, 1}, {1, 1 << 63},
		{0x5555555555555555, 0xaaaaaaaaaaaaaaaa}, {0x0123456789abcdef, 0xfedcba9876543210}, {1<<63 | 1, 0}, {0, 1<<63 | 1},
	}
	for _, rank := range []int{0, 1, 2, 31, 32, 33, 62, 63, 64, 65, 95, 96, 97, 126, 127} {
		var one, run plain
		for other := range one {
			one[other] = other == rank
			run[other] = other <= rank
		}
		m := lay(one)
		l = append(l, m, api.Mask{^m[0], ^m[1]}, lay(run))
	}
	mixed := uint64(88172645463325252)
	for range 40 {
		var m api.Mask
		for at := range m {
			mixed ^= mixed << 13
			mixed ^= mixed >> 7
			mixed ^= mixed << 17
			m[at] = mixed
		}
		l = append(l, m)
	}
	return l
}

func TestThePlainMask(t *testing.T) {
	for _, m := range samples() {
		if got := lay(tell(m)); got != m {
			t.Fatalf("%x goes to %x by what it is held against", m, got)
		}
	}
	if p := tell(api.Mask{1 << 63, 1}); !p[63] || !p[64] || p[0] || p[62] || p[65] || p[127] {
		t.Fatal("the ranks 63 and 64 aren't where they ought to be")
	}
}

// P5.1

func TestOf(t *testing.T) {
	for _, c := range []struct {
		ranks []int
		want  api.Mask
	}{
		{nil, none},
		{[]int{}, none},
		{[]int{0, 64}, api.Mask{1, 1}},
		{[]int{64, 0}, api.Mask{1, 1}},
		{[]int{0}, api.Mask{1, 0}},
		{[]int{1}, api.Mask{2, 0}},
		{[]int{31, 32}, api.Mask{1<<31 | 1<<32, 0}},
		{[]int{62}, api.Mask{1 << 62, 0}},
		{[]int{63}, api.Mask{1 << 63, 0}},
		{[]int{64}, api.Mask{0, 1}},
		{[]int{65}, api.Mask{0, 2}},
		{[]int{126}, api.Mask{0, 1 << 62}},
		{[]int{127}, api.Mask{0, 1 << 63}},
		{[]int{127, 64, 63, 0}, api.Mask{1<<63 | 1, 1<<63 | 1}},
		{[]int{5, 5, 5}, api.Mask{32, 0}},
		{[]int{127, 3, 127, 3}, api.Mask{8, 1 << 63}},
		{[]int{-1, 128}, none},
		{[]int{-1, 2, 128, 66, 1 << 32}, api.Mask{4, 4}},
		{noRanks, none},
		{slices.Concat([]int{9}, noRanks, []int{70, 9}), api.Mask{1 << 9, 1 << 6}},
	} {
		if got := mask.Of(c.ranks...); got != c.want {
			t.Errorf("Of(%v) = %x, not %x", c.ranks, got, c.want)
		}
	}
	if mask.Of() != none {
		t.Error("Of() isn't the mask of no rank")
	}
}

func TestOfOneAndOfTwo(t *testing.T) {
	for rank := range 128 {
		var one plain
		one[rank] = true
		if got := mask.Of(rank); got != lay(one) {
			t.Fatalf("Of(%d) = %x", rank, got)
		}
		for other := range 128 {
			two := one
			two[other] = true
			if got := mask.Of(rank, other); got != lay(two) {
				t.Fatalf("Of(%d, %d) = %x", rank, other, got)
			}
		}
	}
}

func TestOfNoRankAlone(t *testing.T) {
	for _, rank := range noRanks {
		if got := mask.Of(rank); got != none {
			t.Errorf("Of(%d) = %x", rank, got)
		}
		if got := mask.Of(rank, 127, rank); got != (api.Mask{0, 1 << 63}) {
			t.Errorf("Of(%d, 127, %d) = %x", rank, rank, got)
		}
	}
}

func TestHas(t *testing.T) {
	for _, m := range samples() {
		for rank, want := range tell(m) {
			if got := mask.Has(m, rank); got != want {
				t.Fatalf("Has(%x, %d) = %t", m, rank, got)
			}
		}
		for _, rank := range noRanks {
			if mask.Has(m, rank) {
				t.Fatalf("Has(%x, %d), which is no rank", m, rank)
			}
		}
	}
}

func TestWithAndWithout(t *testing.T) {
	for _, m := range samples() {
		for rank := range 128 {
			with, without := tell(m), tell(m)
			with[rank], without[rank] = true, false
			if got := mask.With(m, rank); got != lay(with) {
				t.Fatalf("With(%x, %d) = %x", m, rank, got)
			}
			if got := mask.Without(m, rank); got != lay(without) {
				t.Fatalf("Without(%x, %d) = %x", m, rank, got)
			}
		}
		for _, rank := range noRanks {
			if got := mask.With(m, rank); got != m {
				t.Fatalf("With(%x, %d) = %x, though that is no rank", m, rank, got)
			}
			if got := mask.Without(m, rank); got != m {
				t.Fatalf("Without(%x, %d) = %x, though that is no rank", m, rank, got)
			}
		}
	}
}

func TestCountAndRanks(t *testing.T) {
	for _, m := range samples() {
		want := ranksOf(m)
		if got := mask.Count(m); got != len(want) {
			t.Fatalf("Count(%x) = %d, not %d", m, got, len(want))
		}
		got := mask.Ranks(m)
		if !slices.Equal(got, want) {
			t.Fatalf("Ranks(%x) = %v, not %v", m, got, want)
		}
		if again := mask.Of(got...); again != m {
			t.Fatalf("Of(Ranks(%x)) = %x", m, again)
		}
	}
	if mask.Count(none) != 0 || mask.Count(all) != 128 || len(mask.Ranks(none)) != 0 {
		t.Fatal("none and all are counted wrongly")
	}
	if got := mask.Ranks(mask.Of(127, 0, 64, 63, 64)); !slices.Equal(got, []int{0, 63, 64, 127}) {
		t.Fatalf("the ranks 0, 63, 64 and 127 are told as %v", got)
	}
}

func TestRanksAreNewMemory(t *testing.T) {
	m := mask.Of(3, 70)
	first, second := mask.Ranks(m), mask.Ranks(m)
	first[0] = 99
	_ = append(first[:1], 98)
	if !slices.Equal(second, []int{3, 70}) || !slices.Equal(mask.Ranks(m), []int{3, 70}) {
		t.Fatal("two answers of Ranks share memory")
	}
}

// P5.2

func TestAndOrMinus(t *testing.T) {
	masks := samples()
	for _, a := range masks {
		for _, b := range masks {
			if got, want := mask.And(a, b), both(a, b, func(a, b bool) bool { return a && b }); got != want {
				t.Fatalf("And(%x, %x) = %x, not %x", a, b, got, want)
			}
			if got, want := mask.Or(a, b), both(a, b, func(a, b bool) bool { return a || b }); got != want {
				t.Fatalf("Or(%x, %x) = %x, not %x", a, b, got, want)
			}
			if got, want := mask.Minus(a, b), both(a, b, func(a, b bool) bool { return a && !b }); got != want {
				t.Fatalf("Minus(%x, %x) = %x, not %x", a, b, got, want)
			}
		}
	}
}

func TestAndOrMinusOfFew(t *testing.T) {
	a, b := mask.Of(0, 63, 64), mask.Of(63, 64, 127)
	if got := mask.And(a, b); got != mask.Of(63, 64) {
		t.Errorf("And: %v", mask.Ranks(got))
	}
	if got := mask.Or(a, b); got != mask.Of(0, 63, 64, 127) {
		t.Errorf("Or: %v", mask.Ranks(got))
	}
	if got := mask.Minus(a, b); got != mask.Of(0) {
		t.Errorf("Minus: %v", mask.Ranks(got))
	}
	if got := mask.Minus(b, a); got != mask.Of(127) {
		t.Errorf("Minus, turned about: %v", mask.Ranks(got))
	}
}

// below answers the mask of the ranks below n.
func below(n int) api.Mask {
	var p plain
	for rank := range p {
		p[rank] = rank < n
	}
	return lay(p)
}

// numbers answers numbers from far below the ranks to far above them.
func numbers() []int {
	l := slices.Clone(noRanks)
	for n := -3; n <= 300; n++ {
		l = append(l, n)
	}
	return l
}

func TestFirst(t *testing.T) {
	for _, n := range numbers() {
		if got := mask.First(n); got != below(n) {
			t.Errorf("First(%d) = %x, not %x", n, got, below(n))
		}
	}
	for n, want := range map[int]api.Mask{
		math.MinInt: none, -1: none, 0: none, 1: {1, 0}, 2: {3, 0},
		63: {1<<63 - 1, 0}, 64: {math.MaxUint64, 0}, 65: {math.MaxUint64, 1}, 66: {math.MaxUint64, 3},
		127: {math.MaxUint64, 1<<63 - 1}, 128: all, 129: all, 192: all, 256: all, math.MaxInt: all,
	} {
		if got := mask.First(n); got != want {
			t.Errorf("First(%d) = %x, not %x", n, got, want)
		}
	}
}

func TestMajority(t *testing.T) {
	for _, m := range samples() {
		for _, n := range numbers() {
			in := 0
			for _, rank := range ranksOf(m) {
				if rank < n {
					in++
				}
			}
			want := n >= 1 && in+in > n
			if got := mask.Majority(m, n); got != want {
				t.Fatalf("Majority(%x, %d) = %t, though %d of them are in", m, n, got, in)
			}
		}
	}
}

func TestMajorityAtItsEdges(t *testing.T) {
	for _, c := range []struct {
		m    api.Mask
		n    int
		want bool
	}{
		{mask.Of(0, 1), 3, true},
		{mask.Of(0, 1), 4, false},
		{mask.Of(1, 2), 3, true},
		{mask.Of(1, 3), 3, false}, // the rank 3 isn't below 3
		{mask.Of(0), 1, true},
		{mask.Of(1), 1, false},
		{mask.Of(0), 2, false},
		{mask.Of(0, 1), 2, true},
		{mask.Of(63, 64), 64, false},
		{mask.First(64), 127, true},
		{mask.First(64), 128, false},
		{mask.First(65), 128, true},
		{mask.Minus(all, mask.First(64)), 128, false},
		{mask.Minus(all, mask.First(63)), 128, true},
		{all, 0, false},
		{all, -1, false},
		{all, math.MinInt, false},
		{all, 1, true},
		{all, 128, true},
		{all, 255, true}, // there are 128 ranks below 255
		{all, 256, false},
		{all, 257, false},
		{all, math.MaxInt, false},
		{all, math.MinInt + 128, false},
		{none, 0, false},
		{none, -1, false},
		{none, math.MinInt, false},
		{none, 1, false},
		{none, 128, false},
		{none, math.MaxInt, false},
	} {
		if got := mask.Majority(c.m, c.n); got != c.want {
			t.Errorf("Majority(%x, %d) = %t", c.m, c.n, got)
		}
	}
}

// P5.3

// countShares answers what Shares is to answer, by looking through the whole list for each mask.
func countShares(l []api.Mask) []api.Share {
	var out []api.Share
	for at, m := range l {
		if slices.Contains(l[:at], m) {
			continue
		}
		n := 0
		for _, other := range l {
			if other == m {
				n++
			}
		}
		out = append(out, api.Share{M: m, N: n})
	}
	return out
}

func TestShares(t *testing.T) {
	a, b, c := mask.Of(0), mask.Of(64), mask.Of(0, 64)
	for _, x := range []struct {
		l    []api.Mask
		want []api.Share
	}{
		{nil, nil},
		{[]api.Mask{}, nil},
		{[]api.Mask{none}, []api.Share{{M: none, N: 1}}},
		{[]api.Mask{none, none}, []api.Share{{M: none, N: 2}}},
		{[]api.Mask{all, none, all}, []api.Share{{M: all, N: 2}, {M: none, N: 1}}},
		{[]api.Mask{none, all, all}, []api.Share{{M: none, N: 1}, {M: all, N: 2}}},
		{[]api.Mask{c, a, b, a, a, c}, []api.Share{{M: c, N: 2}, {M: a, N: 3}, {M: b, N: 1}}},
		{[]api.Mask{b, a, c}, []api.Share{{M: b, N: 1}, {M: a, N: 1}, {M: c, N: 1}}},
		{[]api.Mask{a, b, b, a}, []api.Share{{M: a, N: 2}, {M: b, N: 2}}},
	} {
		if got := mask.Shares(x.l); !slices.Equal(got, x.want) {
			t.Errorf("Shares(%x) = %x, not %x", x.l, got, x.want)
		}
	}
}

func TestSharesOfAllShortLists(t *testing.T) {
	few := []api.Mask{none, {1, 0}, {0, 1}, all}
	for number := range 1 << 12 {
		for length := range 7 {
			var l []api.Mask
			for at := range length {
				l = append(l, few[number>>(2*at)&3])
			}
			for range 2 {
				if got, want := mask.Shares(l), countShares(l); !slices.Equal(got, want) {
					t.Fatalf("Shares(%x) = %x, not %x", l, got, want)
				}
			}
		}
	}
}

func TestSharesOfMany(t *testing.T) {
	masks := samples()
	l := slices.Concat(masks[:30], masks, masks[50:], masks[10:20])
	if got, want := mask.Shares(l), countShares(l); !slices.Equal(got, want) {
		t.Fatalf("Shares of %d masks: %x, not %x", len(l), got, want)
	}
	long := make([]api.Mask, 100000)
	for at := range long {
		long[at] = api.Mask{uint64(at % 3), 7}
	}
	want := []api.Share{{M: api.Mask{0, 7}, N: 33334}, {M: api.Mask{1, 7}, N: 33333}, {M: api.Mask{2, 7}, N: 33333}}
	if got := mask.Shares(long); !slices.Equal(got, want) {
		t.Fatalf("Shares of a long list: %x", got)
	}
}

// What is handed over (R4)

func TestOfSparesItsRanks(t *testing.T) {
	for _, behind := range []int{0, 5, 63, 64, 127, -1, 128} {
		room := []int{70, -1, 3, behind, behind}
		if got := mask.Of(room[:3:5]...); got != (api.Mask{8, 64}) {
			t.Errorf("Of reads the room behind the length: %x", got)
		}
		if !slices.Equal(room, []int{70, -1, 3, behind, behind}) {
			t.Errorf("Of has changed what it was handed: %v", room)
		}
	}
}

func TestSharesSparesItsMasks(t *testing.T) {
	a, b := mask.Of(1, 127), mask.Of(2)
	want := []api.Share{{M: b, N: 1}, {M: a, N: 2}}
	for _, behind := range []api.Mask{none, a, b, all} {
		room := []api.Mask{b, a, a, behind, behind}
		got := mask.Shares(room[:3:5])
		if !slices.Equal(room, []api.Mask{b, a, a, behind, behind}) {
			t.Errorf("Shares has changed what it was handed: %x", room)
		}
		clear(room)
		if !slices.Equal(got, want) {
			t.Errorf("Shares reads the room behind the length, or keeps what it was handed: %x", got)
		}
		got[0] = api.Share{M: all, N: 9}
		if again := mask.Shares([]api.Mask{b, a, a}); !slices.Equal(again, want) {
			t.Errorf("two answers of Shares share memory: %x", again)
		}
	}
}

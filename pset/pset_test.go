package pset_test

import (
	"math"
	"slices"
	"testing"

	"choragus/api"
	"choragus/pid"
	"choragus/pset"
)

// Processes, those that are ahead first; two of them may not be.
var (
	none     = api.Pid{}
	a        = api.Pid{Id: 2, Inc: 1}
	a2       = api.Pid{Id: 2, Inc: 2}
	aLate    = api.Pid{Id: 2, Inc: 1 << 31}
	b        = api.Pid{Id: 3, Inc: 1}
	c        = api.Pid{Id: 4, Inc: 1}
	greatest = api.Pid{Id: math.MaxUint16, Inc: math.MaxUint32}
	all      = [...]api.Pid{none, a, a2, aLate, b, c, greatest}
)

// list makes a list of as many processes as one likes.
func list(l ...api.Pid) []api.Pid { return l }

// check asks whether just those of want, which stand in their order, are in s.
func check(t *testing.T, s *pset.Set, want ...api.Pid) {
	t.Helper()
	if got := s.List(); !slices.Equal(got, want) {
		t.Fatalf("List is %v, not %v", got, want)
	}
	if got := s.Len(); got != len(want) {
		t.Fatalf("Len of %v is %d", want, got)
	}
	for _, p := range all {
		if got := s.Has(p); got != slices.Contains(want, p) {
			t.Fatalf("Has(%v) of %v is %t", p, want, got)
		}
	}
}

// subsets answers all lists of some of all, each in their order.
func subsets() [][]api.Pid {
	var out [][]api.Pid
	for bits := range 1 << len(all) {
		var l []api.Pid
		for at, p := range all {
			if bits>>at&1 == 1 {
				l = append(l, p)
			}
		}
		out = append(out, l)
	}
	return out
}

// without answers those of l that aren't in gone, by looking through both lists.
func without(l, gone []api.Pid) []api.Pid {
	return slices.DeleteFunc(slices.Clone(l), func(p api.Pid) bool { return slices.Contains(gone, p) })
}

// backwards answers l, its last one first.
func backwards(l []api.Pid) []api.Pid {
	out := slices.Clone(l)
	slices.Reverse(out)
	return out
}

// checkSpared asks whether call changes neither the elements of what it is handed nor the room behind its length, and doesn't read that room either.
func checkSpared(t *testing.T, name string, call func(l []api.Pid) []api.Pid) {
	t.Helper()
	for _, behind := range all {
		room := list(c, a, c, b, behind, behind, behind, behind)
		got := call(room[:4:8])
		if !slices.Equal(room, list(c, a, c, b, behind, behind, behind, behind)) {
			t.Fatalf("%s has changed what it was handed: %v", name, room)
		}
		if want := call(list(c, a, c, b)); !slices.Equal(got, want) {
			t.Fatalf("%s tells %v, not %v, with %v in the room behind the length", name, got, want, behind)
		}
		first := slices.Clone(got)
		clear(room)
		if !slices.Equal(got, first) {
			t.Fatalf("%s: the answer shares memory with what was handed in: %v", name, got)
		}
		again := list(c, a, c, b)
		got = call(again)
		for at := range got {
			got[at] = greatest
		}
		if !slices.Equal(again, list(c, a, c, b)) {
			t.Fatalf("%s: what is written into the answer is in what was handed in: %v", name, again)
		}
		// Nor does what is written behind the answer's length get there.
		_ = append(call(again), greatest, greatest, greatest)
		if !slices.Equal(again, list(c, a, c, b)) {
			t.Fatalf("%s: what is written behind the answer is in what was handed in: %v", name, again)
		}
	}
}

// P4.1

func TestExample(t *testing.T) {
	s := pset.New(c, a)
	if !s.Add(b) || s.Add(b) {
		t.Fatal("Add(3.1) isn't true, then false")
	}
	check(t, s, a, b, c)
}

func TestNew(t *testing.T) {
	for _, l := range []struct{ l, want []api.Pid }{
		{nil, nil},
		{list(), nil},
		{list(b), list(b)},
		{list(none), list(none)},
		{list(b, b, b), list(b)},
		{list(c, b, a, b, c), list(a, b, c)},
		{list(a2, a, aLate), list(a, a2, aLate)},
		{list(greatest, none, greatest), list(none, greatest)},
	} {
		check(t, pset.New(l.l...), l.want...)
	}
	for _, l := range subsets() {
		check(t, pset.New(l...), l...)
		check(t, pset.New(slices.Concat(backwards(l), l)...), l...)
	}
}

func TestNewOfNone(t *testing.T) {
	for _, s := range []*pset.Set{pset.New(), pset.New(nil...), pset.New([]api.Pid{}...)} {
		if s == nil {
			t.Fatal("New of no process is nil: nothing could be added")
		}
		check(t, s)
		if s.Drop(a) || s.Drop(none) || s.Keep() != 0 || s.Keep(a) != 0 || s.Union() != 0 {
			t.Fatal("an empty set changes by what changes nothing")
		}
		check(t, s)
		if !s.Add(a) {
			t.Fatal("Add to an empty set: false")
		}
		check(t, s, a)
	}
}

func TestSetsAreApart(t *testing.T) {
	s, other := pset.New(a, b), pset.New(a, b)
	empty, otherEmpty := pset.New(), pset.New()
	s.Add(c)
	s.Drop(a)
	empty.Add(c)
	check(t, s, b, c)
	check(t, other, a, b)
	check(t, empty, c)
	check(t, otherEmpty)
}

func TestHas(t *testing.T) {
	s := pset.New(a, c)
	for p, want := range map[api.Pid]bool{
		a: true, c: true, none: false, a2: false, aLate: false, b: false, greatest: false,
		{Id: 4}: false, {Inc: 1}: false, {Id: 1, Inc: 2}: false,
	} {
		for range 2 {
			if got := s.Has(p); got != want {
				t.Errorf("Has(%v) = %t", p, got)
			}
		}
	}
	check(t, s, a, c)
}

func TestAdd(t *testing.T) {
	for _, l := range subsets() {
		for _, p := range all {
			s := pset.New(l...)
			if got := s.Add(p); got == slices.Contains(l, p) {
				t.Fatalf("Add(%v) to %v: %t", p, l, got)
			}
			want := pid.Sort(slices.Concat(l, list(p)))
			check(t, s, want...)
			// What is there already changes nothing.
			for range 2 {
				if s.Add(p) {
					t.Fatalf("Add(%v) to %v: true", p, want)
				}
				check(t, s, want...)
			}
		}
	}
}

func TestDrop(t *testing.T) {
	for _, l := range subsets() {
		for _, p := range all {
			s := pset.New(l...)
			if got := s.Drop(p); got != slices.Contains(l, p) {
				t.Fatalf("Drop(%v) of %v: %t", p, l, got)
			}
			want := without(l, list(p))
			check(t, s, want...)
			// What isn't there changes nothing.
			for range 2 {
				if s.Drop(p) {
					t.Fatalf("Drop(%v) of %v: true", p, want)
				}
				check(t, s, want...)
			}
			if !s.Add(p) {
				t.Fatalf("Add(%v) behind its Drop: false", p)
			}
			check(t, s, pid.Sort(append(want, p))...)
		}
	}
}

func TestListIsNewMemory(t *testing.T) {
	s := pset.New(b, a)
	l, m := s.List(), s.List()
	clear(l)
	_ = append(l, greatest)
	check(t, s, a, b)
	if !slices.Equal(m, list(a, b)) {
		t.Fatalf("two Lists share their memory: %v", m)
	}
	s.Add(none)
	s.Drop(b)
	if !slices.Equal(m, list(a, b)) {
		t.Fatalf("a List changes with the set: %v", m)
	}
}

func TestListIsInItsOrder(t *testing.T) {
	var want []api.Pid
	for id := range uint16(100) {
		for _, inc := range []uint32{0, 1, 2, 1<<31 - 1, 1 << 31, math.MaxUint32} {
			want = append(want, api.Pid{Id: id, Inc: inc})
		}
	}
	s := pset.New(backwards(want)...)
	for range 20 {
		if got := s.List(); !slices.Equal(got, want) {
			t.Fatalf("List is %v", got)
		}
	}
}

// P4.2

func TestUnion(t *testing.T) {
	for _, l := range subsets() {
		for _, m := range subsets() {
			s, fresh := pset.New(l...), len(without(m, l))
			want := pid.Sort(slices.Concat(l, m))
			if got := s.Union(backwards(m)...); got != fresh {
				t.Fatalf("Union of %v with %v: %d", l, m, got)
			}
			check(t, s, want...)
			if got := s.Union(m...); got != 0 {
				t.Fatalf("Union of %v with %v: %d", want, m, got)
			}
			check(t, s, want...)
		}
	}
}

func TestUnionOfTwice(t *testing.T) {
	s := pset.New(a)
	if got := s.Union(b, a, b, b, c, a, c); got != 2 {
		t.Fatalf("two of which each stands twice: %d", got)
	}
	check(t, s, a, b, c)
	if got := s.Union(); got != 0 {
		t.Fatalf("Union with nobody: %d", got)
	}
	if got := s.Union(s.List()...); got != 0 {
		t.Fatalf("Union with its own: %d", got)
	}
	check(t, s, a, b, c)
}

func TestKeep(t *testing.T) {
	for _, l := range subsets() {
		for _, m := range subsets() {
			s, gone := pset.New(l...), without(l, m)
			if got := s.Keep(backwards(m)...); got != len(gone) {
				t.Fatalf("Keep(%v) of %v: %d", m, l, got)
			}
			want := without(l, gone)
			check(t, s, want...)
			if got := s.Keep(m...); got != 0 {
				t.Fatalf("Keep(%v) of %v: %d", m, want, got)
			}
			check(t, s, want...)
		}
	}
}

func TestKeepOfTwice(t *testing.T) {
	s := pset.New(a, a2, b, c, b)
	if got := s.Keep(b, greatest, b, a2, greatest, a2, b); got != 2 {
		t.Fatalf("two of four are kept, each named twice: %d", got)
	}
	check(t, s, a2, b)
	if got := s.Keep(s.List()...); got != 0 {
		t.Fatalf("Keep of its own: %d", got)
	}
	check(t, s, a2, b)
	if got := s.Keep(); got != 2 {
		t.Fatalf("Keep of nobody: %d", got)
	}
	check(t, s)
	if got := s.Keep(); got != 0 {
		t.Fatalf("Keep of nobody, of an empty set: %d", got)
	}
	if !s.Add(b) {
		t.Fatal("Add behind Keep of nobody: false")
	}
	check(t, s, b)
}

func TestMinusAndCommon(t *testing.T) {
	for _, row := range []struct{ l, m, minus, common []api.Pid }{
		{nil, nil, nil, nil},
		{list(), list(), nil, nil},
		{nil, list(a, b), nil, nil},
		{list(c, a), nil, list(c, a), nil},
		{list(c, a), list(), list(c, a), nil},
		{list(c, a, b), list(a), list(c, b), list(a)},
		{list(c, a, b), list(b, c), list(a), list(c, b)},
		{list(c, a, b), list(a, b, c), nil, list(c, a, b)},
		{list(c, a, c, b, a, c), list(a), list(c, c, b, c), list(a, a)},
		{list(c, a, c, b, a, c), list(c, greatest, c), list(a, b, a), list(c, c, c)},
		{list(b, b, b), list(b), nil, list(b, b, b)},
		{list(b, b, b), list(c, c), list(b, b, b), nil},
		{list(aLate, a2, a), list(a2), list(aLate, a), list(a2)},
		{list(none, greatest, none), list(none), list(greatest), list(none, none)},
	} {
		if got := pset.Minus(row.l, row.m...); !slices.Equal(got, row.minus) {
			t.Errorf("Minus(%v, %v) = %v", row.l, row.m, got)
		}
		if got := pset.Common(row.l, row.m); !slices.Equal(got, row.common) {
			t.Errorf("Common(%v, %v) = %v", row.l, row.m, got)
		}
	}
	if got := pset.Minus(list(c, a, b)); !slices.Equal(got, list(c, a, b)) {
		t.Errorf("Minus of nobody: %v", got)
	}
	if got := pset.Minus(list(c, a, b), a, b); !slices.Equal(got, list(c)) {
		t.Errorf("Minus of two: %v", got)
	}
}

// TestMinusAndCommonOfAllSubsets: what one answers and what the other answers are l, each in l's order, twice where it stands twice.
func TestMinusAndCommonOfAllSubsets(t *testing.T) {
	for _, l := range subsets() {
		for _, m := range subsets() {
			for _, twice := range [][]api.Pid{backwards(l), slices.Concat(backwards(l), l)} {
				minus := without(twice, m)
				if got := pset.Minus(twice, m...); !slices.Equal(got, minus) {
					t.Fatalf("Minus(%v, %v) = %v", twice, m, got)
				}
				if got := pset.Common(twice, m); !slices.Equal(got, without(twice, minus)) {
					t.Fatalf("Common(%v, %v) = %v", twice, m, got)
				}
			}
		}
	}
}

// P4.1 and P4.2: a nil *Set, and a zero one

func TestNil(t *testing.T) {
	var s *pset.Set
	for range 2 {
		for _, p := range all {
			if s.Has(p) || s.Add(p) || s.Has(p) || s.Drop(p) {
				t.Fatalf("of a nil set, %v: true", p)
			}
		}
		if s.Len() != 0 || len(s.List()) != 0 {
			t.Fatalf("of a nil set: %d, %v", s.Len(), s.List())
		}
		if s.Union() != 0 || s.Union(a) != 0 || s.Union(all[:]...) != 0 {
			t.Fatal("Union of a nil set isn't 0")
		}
		if s.Keep() != 0 || s.Keep(a) != 0 || s.Keep(all[:]...) != 0 {
			t.Fatal("Keep of a nil set isn't 0")
		}
	}
}

func TestZero(t *testing.T) {
	var s, u, k pset.Set
	check(t, &s)
	if s.Drop(a) || s.Keep() != 0 || s.Keep(a) != 0 || s.Union() != 0 {
		t.Fatal("a zero set changes by what changes nothing")
	}
	check(t, &s)
	if !s.Add(a) || s.Add(a) {
		t.Fatal("Add to a zero set isn't true, then false")
	}
	check(t, &s, a)
	if got := u.Union(c, b, c); got != 2 {
		t.Fatalf("Union of a zero set with two: %d", got)
	}
	check(t, &u, b, c)
	check(t, &k)
}

// R4, R6

func TestWhatIsHandedOverIsSpared(t *testing.T) {
	checkSpared(t, "New", func(l []api.Pid) []api.Pid { return pset.New(l...).List() })
	checkSpared(t, "Union", func(l []api.Pid) []api.Pid {
		s := pset.New(a2)
		s.Union(l...)
		return s.List()
	})
	checkSpared(t, "Keep", func(l []api.Pid) []api.Pid {
		s := pset.New(all[:]...)
		s.Keep(l...)
		return s.List()
	})
	checkSpared(t, "Minus", func(l []api.Pid) []api.Pid { return pset.Minus(l, a) })
	checkSpared(t, "Minus of nobody", func(l []api.Pid) []api.Pid { return pset.Minus(l) })
	checkSpared(t, "Minus of those", func(l []api.Pid) []api.Pid { return pset.Minus(all[:], l...) })
	checkSpared(t, "Common", func(l []api.Pid) []api.Pid { return pset.Common(l, list(c, b)) })
	checkSpared(t, "Common with all", func(l []api.Pid) []api.Pid { return pset.Common(l, all[:]) })
	checkSpared(t, "Common with those", func(l []api.Pid) []api.Pid { return pset.Common(all[:], l) })
	if all != [...]api.Pid{none, a, a2, aLate, b, c, greatest} {
		t.Fatalf("a call has changed what it was handed: %v", all)
	}
}

func TestNothingHandedOverIsKept(t *testing.T) {
	l := list(a, b)
	s := pset.New(l...)
	clear(l)
	check(t, s, a, b)
	l = list(c, greatest)
	s.Union(l...)
	clear(l)
	check(t, s, a, b, c, greatest)
	l = list(a, c)
	s.Keep(l...)
	l[0], l[1] = b, b
	check(t, s, a, c)
	if !s.Add(b) {
		t.Fatal("Add behind Keep: false")
	}
	check(t, s, a, b, c)
}

// TestManyCalls: long rows of calls, made by a short rule, are held against a list that is looked through.
func TestManyCalls(t *testing.T) {
	n := uint64(4)
	next := func(below uint64) uint64 {
		n = n*6364136223846793005 + 1442695040888963407
		return n >> 33 % below
	}
	some := func() []api.Pid {
		var l []api.Pid
		for range next(12) {
			l = append(l, api.Pid{Id: uint16(next(5)), Inc: uint32(next(4))})
		}
		return l
	}
	s, model := pset.New(), list()
	for step := range 20000 {
		l := some()
		p := api.Pid{Id: uint16(next(5)), Inc: uint32(next(4))}
		before, was := len(model), slices.Contains(model, p)
		switch next(4) {
		case 0:
			model = pid.Sort(append(model, p))
			if got := s.Add(p); got == was {
				t.Fatalf("step %d: Add(%v) = %t", step, p, got)
			}
		case 1:
			model = without(model, list(p))
			if got := s.Drop(p); got != was {
				t.Fatalf("step %d: Drop(%v) = %t", step, p, got)
			}
		case 2:
			model = pid.Sort(slices.Concat(model, l))
			if got := s.Union(l...); got != len(model)-before {
				t.Fatalf("step %d: Union(%v) = %d", step, l, got)
			}
		case 3:
			model = without(model, without(model, l))
			if got := s.Keep(l...); got != before-len(model) {
				t.Fatalf("step %d: Keep(%v) = %d", step, l, got)
			}
		}
		if got := s.List(); !slices.Equal(got, model) || s.Len() != len(model) {
			t.Fatalf("step %d: List is %v, Len is %d, not %v", step, got, s.Len(), model)
		}
	}
}

// TestGreatSets: sets are of any size, and lists may be as long.
func TestGreatSets(t *testing.T) {
	const half = 1 << 16
	var l []api.Pid
	for at := range 2 * half {
		l = append(l, api.Pid{Id: uint16(at), Inc: uint32(at >> 16)})
	}
	s := pset.New(l[:half]...)
	if got := s.Union(l...); got != half || s.Len() != 2*half {
		t.Fatalf("Union: %d, of %d", got, s.Len())
	}
	if got := s.Keep(l[half:]...); got != half || s.Len() != half {
		t.Fatalf("Keep: %d, of %d", got, s.Len())
	}
	if got := s.List(); !slices.Equal(got, l[half:]) {
		t.Fatal("List isn't those that were kept")
	}
	if got := pset.Minus(l, l[half:]...); !slices.Equal(got, l[:half]) {
		t.Fatal("Minus isn't the first half")
	}
	if got := pset.Common(l, l[half:]); !slices.Equal(got, l[half:]) {
		t.Fatal("Common isn't the second half")
	}
}

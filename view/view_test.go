package view_test

import (
	"bytes"
	"encoding/binary"
	"math"
	"math/rand"
	"reflect"
	"regexp"
	"slices"
	"strconv"
	"strings"
	"testing"

	"choragus/api"
	"choragus/body"
	"choragus/view"
)

var (
	none  = api.Pid{}
	ann   = api.Pid{Id: 1, Inc: 1}
	bob   = api.Pid{Id: 2, Inc: 7}
	cal   = api.Pid{Id: 0, Inc: 1}
	dan   = api.Pid{Id: 15, Inc: math.MaxUint32}
	eve   = api.Pid{Id: 9, Inc: 300}
	zoe   = api.Pid{Id: 5, Inc: 5} // who is in no view that is written out here
	noIds = []uint64{0, api.Ceiling + 1, api.Ceiling + 2, 1 << 63, math.MaxUint64}
)

// list answers a list of processes.
func list(l ...api.Pid) []api.Pid { return l }

// leaves answers a list of leaves.
func leaves(l ...[]api.Pid) [][]api.Pid { return l }

// example answers the chapter's view, with two leaders of three members.
func example() api.View {
	p, q, r := api.Pid{Id: 1, Inc: 1}, api.Pid{Id: 2, Inc: 1}, api.Pid{Id: 3, Inc: 1}
	return api.View{Id: 1, Members: list(p, q, r), Leaves: leaves(list(p, r), list(q)), Leaders: list(p, q)}
}

// five answers a view of five members, in three leaves, with three leaders.
func five() api.View {
	return api.View{Id: 300, Members: list(ann, bob, cal, dan, eve), Leaves: leaves(list(ann, dan), list(bob), list(cal, eve)), Leaders: list(ann, cal, eve)}
}

// many answers n processes that have other Ids each, as far as there are some that may be.
func many(n int) []api.Pid {
	var l []api.Pid
	for at := range n {
		l = append(l, api.Pid{Id: uint16(at * 7 % 16), Inc: uint32(1 + at/16)})
	}
	return l
}

// single answers a view of some members in one leaf, whose eldest leads.
func single(l ...api.Pid) api.View {
	return api.View{Id: 1, Members: slices.Clone(l), Leaves: leaves(slices.Clone(l)), Leaders: slices.Clone(l[:min(len(l), 1)])}
}

// placed answers the view in which each member stands in the leaf of that place, and those lead whose bits are set.
func placed(id uint64, members []api.Pid, places []int, leaders int) api.View {
	v := api.View{Id: id, Members: slices.Clone(members)}
	for rank, p := range members {
		for places[rank] >= len(v.Leaves) {
			v.Leaves = append(v.Leaves, nil)
		}
		v.Leaves[places[rank]] = append(v.Leaves[places[rank]], p)
		if leaders>>rank&1 == 1 {
			v.Leaders = append(v.Leaders, p)
		}
	}
	return v
}

// partings answers all ways to put n members into leaves: of each one, which leaf.
func partings(n int) [][]int {
	if n == 0 {
		return [][]int{nil}
	}
	var all [][]int
	for _, ahead := range partings(n - 1) {
		next := 0
		for _, place := range ahead {
			next = max(next, place+1)
		}
		for place := range next + 1 {
			all = append(all, append(slices.Clone(ahead), place))
		}
	}
	return all
}

// allViews answers all views that may be of these members, in their order.
func allViews(id uint64, members []api.Pid) []api.View {
	var all []api.View
	for _, places := range partings(len(members)) {
		for leaders := 1; leaders < 1<<len(members); leaders++ {
			all = append(all, placed(id, members, places, leaders))
		}
	}
	return all
}

// someView answers any view that may be.
func someView(source *rand.Rand) api.View {
	incs := []uint32{1, 1, 2, 7, 127, 128, 300, 1 << 31, math.MaxUint32}
	ids := []uint64{1, 2, 127, 128, 300, 1 << 32, api.Ceiling - 1, api.Ceiling}
	var members []api.Pid
	var places []int
	next := 0
	for _, id := range source.Perm(api.MaxProcs)[:1+source.Intn(api.MaxProcs)] {
		members = append(members, api.Pid{Id: uint16(id), Inc: incs[source.Intn(len(incs))]})
		places = append(places, source.Intn(next+1))
		next = max(next, places[len(places)-1]+1)
	}
	return placed(ids[source.Intn(len(ids))], members, places, 1+source.Intn(1<<len(members)-1))
}

// goods answers views that may be: edges, all of up to four members, and some of up to sixteen.
func goods() []api.View {
	all := []api.View{example(), five(), single(cal), single(dan), single(many(api.MaxProcs)...)}
	apart := single(many(api.MaxProcs)...)
	apart.Leaves, apart.Leaders = nil, apart.Members
	for _, p := range apart.Members {
		apart.Leaves = append(apart.Leaves, list(p))
	}
	all = append(all, apart)
	for _, id := range []uint64{1, 2, 127, 128, 1 << 32, api.Ceiling - 1, api.Ceiling} {
		v := five()
		v.Id = id
		all = append(all, v)
	}
	for n := 1; n <= 4; n++ {
		all = append(all, allViews(7, list(cal, bob, ann, dan)[:n])...)
	}
	source := rand.New(rand.NewSource(8))
	for range 300 {
		all = append(all, someView(source))
	}
	return all
}

// a wrong is a view that may not be, and why.
type wrong struct {
	why string
	v   api.View
}

// bads answers views that may not be, each for one thing alone.
func bads() []wrong {
	var all []wrong
	turned := func(why string, turn func(v *api.View)) {
		v := five()
		turn(&v)
		all = append(all, wrong{why, v})
	}
	for _, id := range noIds {
		turned("Id", func(v *api.View) { v.Id = id })
	}
	for _, p := range []api.Pid{{}, {Id: 3}, {Id: 15}, {Id: 16, Inc: 1}, {Id: 17, Inc: 1}, {Id: 127, Inc: 1}, {Id: 128, Inc: 1}, {Id: 256 + 3, Inc: 1}, {Id: math.MaxUint16, Inc: math.MaxUint32}} {
		all = append(all, wrong{"a member that may not be", single(p)}, wrong{"a member that may not be", single(ann, p)}, wrong{"a member that may not be", single(p, bob, ann)})
	}
	for _, p := range []api.Pid{{Id: 1, Inc: 2}, {Id: 1, Inc: math.MaxUint32}} {
		all = append(all, wrong{"two of the same Id", single(ann, p)}, wrong{"two of the same Id", single(p, bob, ann)})
	}
	all = append(all, wrong{"a member twice", single(ann, ann)}, wrong{"a member twice", single(ann, bob, ann)})
	for _, n := range []int{api.MaxProcs + 1, api.MaxMembers - 1, api.MaxMembers, api.MaxMembers + 1, 128, 129, 200} {
		all = append(all, wrong{"more members than may be", single(many(n)...)})
	}
	all = append(all, wrong{"nobody", api.View{Id: 1}}, wrong{"nobody, in a leaf", api.View{Id: 1, Leaves: leaves(nil)}},
		wrong{"no member", api.View{Id: 1, Leaves: leaves(list(ann)), Leaders: list(ann)}})
	return slices.Concat(all, badLeaves(), badLeaders())
}

// badLeaves answers views whose leaves are wrong.
func badLeaves() []wrong {
	var all []wrong
	for why, l := range map[string][][][]api.Pid{
		"in no leaf":                  {nil, {}, leaves(list(ann, dan), list(bob), list(cal)), leaves(list(ann, dan), list(cal, eve)), leaves(list(dan), list(bob), list(cal, eve))},
		"in two leaves":               {leaves(list(ann, dan), list(bob, dan), list(cal, eve)), leaves(list(ann, dan), list(bob), list(cal, eve), list(dan)), leaves(list(ann, dan), list(bob), list(cal, eve), list(ann)), leaves(list(ann, dan), list(ann, dan), list(bob), list(cal, eve)), leaves(list(ann, dan), list(bob), list(bob), list(cal, eve))},
		"twice in a leaf":             {leaves(list(ann, ann, dan), list(bob), list(cal, eve)), leaves(list(ann, dan, dan), list(bob), list(cal, eve)), leaves(list(ann, dan), list(bob), list(cal, eve, cal)), leaves(list(ann, dan), list(bob, bob), list(cal, eve))},
		"a leaf with nobody":          {leaves(nil, list(ann, dan), list(bob), list(cal, eve)), leaves(list(ann, dan), list(), list(bob), list(cal, eve)), leaves(list(ann, dan), list(bob), list(cal, eve), nil), leaves(list(ann, bob, cal, dan, eve), nil)},
		"no member":                   {leaves(list(ann, dan), list(bob), list(cal, eve), list(zoe)), leaves(list(zoe), list(ann, dan), list(bob), list(cal, eve)), leaves(list(ann, dan, zoe), list(bob), list(cal, eve)), leaves(list(ann, zoe, dan), list(bob), list(cal, eve)), leaves(list(ann, dan), list(none, bob), list(cal, eve))},
		"no member, in one's place":   {leaves(list(ann, dan), list(zoe), list(cal, eve)), leaves(list(ann, dan), list(bob), list(cal, zoe)), leaves(list(zoe, dan), list(bob), list(cal, eve)), leaves(list(ann, dan), list(bob), list(cal, none))},
		"another incarnation":         {leaves(list(ann, dan), list(api.Pid{Id: 2, Inc: 8}), list(cal, eve)), leaves(list(ann, dan), list(bob, api.Pid{Id: 2, Inc: 8}), list(cal, eve))},
		"a leaf out of order":         {leaves(list(dan, ann), list(bob), list(cal, eve)), leaves(list(ann, dan), list(bob), list(eve, cal)), leaves(list(ann, bob, cal, eve, dan)), leaves(list(bob, ann, cal, dan, eve))},
		"first ones out of order":     {leaves(list(bob), list(ann, dan), list(cal, eve)), leaves(list(ann, dan), list(cal, eve), list(bob)), leaves(list(cal, eve), list(bob), list(ann, dan)), leaves(list(eve), list(ann, bob, cal, dan))},
		"in order but for their ends": {leaves(list(bob, cal), list(ann, dan, eve)), leaves(list(ann, bob), list(dan), list(cal, eve))},
	} {
		for _, one := range l {
			v := five()
			v.Leaves = one
			all = append(all, wrong{why, v})
		}
	}
	return all
}

// badLeaders answers views whose leaders are wrong.
func badLeaders() []wrong {
	var all []wrong
	for why, l := range map[string][][]api.Pid{
		"no leader":            {nil, {}},
		"no member":            {list(zoe), list(ann, zoe), list(zoe, ann), list(none), list(ann, cal, eve, zoe), list(ann, none, eve), list(api.Pid{Id: 1, Inc: 2}), list(ann, api.Pid{Id: 2, Inc: 8})},
		"a leader twice":       {list(ann, ann), list(ann, cal, cal), list(ann, cal, ann), list(eve, eve), list(ann, bob, cal, dan, eve, eve), list(ann, bob, cal, dan, eve, ann)},
		"leaders out of order": {list(bob, ann), list(ann, eve, cal), list(eve, ann), list(eve, dan, cal, bob, ann), list(ann, bob, dan, cal, eve)},
	} {
		for _, one := range l {
			v := five()
			v.Leaders = one
			all = append(all, wrong{why, v})
		}
	}
	return all
}

// mayBe tells whether v may be, as the chapter tells it: by counting, and by walking along the members.
func mayBe(v api.View) bool {
	if v.Id == 0 || v.Id > 1<<62 || len(v.Members) == 0 || len(v.Members) > 24 || len(v.Leaders) == 0 {
		return false
	}
	for rank, p := range v.Members {
		if p.Id >= 16 || p.Inc == 0 {
			return false
		}
		for _, q := range v.Members[:rank] {
			if p.Id == q.Id {
				return false
			}
		}
		if times(p, slices.Concat(v.Leaves...)) != 1 {
			return false
		}
	}
	var firsts []api.Pid
	for _, leaf := range v.Leaves {
		if len(leaf) == 0 || !along(v.Members, leaf) {
			return false
		}
		firsts = append(firsts, leaf[0])
	}
	return along(v.Members, firsts) && along(v.Members, v.Leaders)
}

// times answers how often p stands in l.
func times(p api.Pid, l []api.Pid) int {
	n := 0
	for _, q := range l {
		if p == q {
			n++
		}
	}
	return n
}

// along tells whether who goes along members meets all of l, in their order.
func along(members, l []api.Pid) bool {
	for _, p := range members {
		if len(l) > 0 && l[0] == p {
			l = l[1:]
		}
	}
	return len(l) == 0
}

// turnedAbout answers views to which some things have been done: few of them may be.
func turnedAbout(n int) []api.View {
	source := rand.New(rand.NewSource(88))
	var all []api.View
	for range n {
		v := someView(source)
		for range 1 + source.Intn(3) {
			turn(source, &v)
		}
		all = append(all, v)
	}
	return all
}

// turn does something to a view.
func turn(source *rand.Rand, v *api.View) {
	lists := []*[]api.Pid{&v.Members, &v.Leaders}
	for at := range v.Leaves {
		lists = append(lists, &v.Leaves[at])
	}
	l := lists[source.Intn(len(lists))]
	from, to := source.Intn(len(*l)+1), source.Intn(len(*l)+1)
	known := append(slices.Clone(v.Members), zoe, none, api.Pid{Id: 16, Inc: 1})
	one := known[source.Intn(len(known))]
	switch kind := source.Intn(7); {
	case kind == 0:
		v.Id = append(noIds, 1, api.Ceiling)[source.Intn(len(noIds)+2)]
	case kind == 1:
		*l = slices.Insert(*l, from, one)
	case kind == 2 && from < len(*l):
		*l = slices.Delete(*l, from, from+1)
	case kind == 3 && from < len(*l):
		(*l)[from] = one
	case kind == 4 && max(from, to) < len(*l):
		(*l)[from], (*l)[to] = (*l)[to], (*l)[from]
	case kind == 5:
		v.Leaves = slices.Insert(v.Leaves, source.Intn(len(v.Leaves)+1), list(one)[:source.Intn(2)])
	case kind == 6 && len(v.Leaves) > 1:
		at := source.Intn(len(v.Leaves) - 1)
		v.Leaves[at], v.Leaves[at+1] = v.Leaves[at+1], v.Leaves[at]
	}
}

// P8.1

func TestExample(t *testing.T) {
	v := example()
	if got := view.Check(v); got != api.OK {
		t.Fatalf("Check = %d", got)
	}
	if view.Quorum(v, v.Members[0]) || view.Quorum(v, v.Members[1]) || !view.Quorum(v, v.Members[0], v.Members[1]) {
		t.Fatal("Quorum of one of two leaders, or not of both")
	}
}

func TestCheck(t *testing.T) {
	for _, v := range goods() {
		if !mayBe(v) {
			t.Fatalf("the test's own view %v may not be", v)
		}
		if got := view.Check(v); got != api.OK {
			t.Fatalf("Check(%v) = %d", v, got)
		}
	}
	for _, w := range bads() {
		if mayBe(w.v) {
			t.Fatalf("%s: the test's own view %v may be", w.why, w.v)
		}
		if got := view.Check(w.v); got != api.ErrArg {
			t.Errorf("%s: Check(%v) = %d", w.why, w.v, got)
		}
	}
}

// errnoOf answers what Check answers of a view that may be, or may not.
func errnoOf(v api.View) api.Errno {
	if mayBe(v) {
		return api.OK
	}
	return api.ErrArg
}

func TestCheckOfViewsTurnedAbout(t *testing.T) {
	are := 0
	for _, v := range turnedAbout(40000) {
		want := errnoOf(v)
		if got := view.Check(v); got != want {
			t.Fatalf("Check(%v) = %d, not %d", v, got, want)
		}
		if want == api.OK {
			are++
		}
	}
	if are < 1000 || are > 39000 {
		t.Fatalf("%d of 40000 may be: the test asks too little", are)
	}
}

// listsOf answers all lists of up to so many of some things.
func listsOf[T any](most int, some ...T) [][]T {
	all := [][]T{nil}
	for at := 0; at < len(all); at++ {
		if len(all[at]) < most {
			for _, one := range some {
				all = append(all, append(slices.Clone(all[at]), one))
			}
		}
	}
	return all
}

// TestCheckOfAllSmallViews: of all lists of a few processes, as members, leaves and leaders.
func TestCheckOfAllSmallViews(t *testing.T) {
	again := api.Pid{Id: ann.Id, Inc: ann.Inc + 1}
	are := 0
	for _, members := range listsOf(3, ann, bob, again) {
		for _, parts := range listsOf(3, listsOf(2, ann, bob, again)...) {
			for _, leaders := range listsOf(2, ann, bob) {
				v := api.View{Id: 1, Members: members, Leaves: parts, Leaders: leaders}
				want := errnoOf(v)
				if got := view.Check(v); got != want {
					t.Fatalf("Check(%v) = %d, not %d", v, got, want)
				}
				if want == api.OK {
					are++
				}
			}
		}
	}
	// Ann alone, and Bob; both, in two orders, parted or not, with three choices of leaders; Bob, with somebody else of Ann's Id who doesn't lead, likewise with one.
	if want := 1 + 1 + 2*2*3 + 2*2*1; are != want {
		t.Fatalf("%d views may be, not %d", are, want)
	}
}

// asked answers whom the tests ask of.
func asked(v api.View) []api.Pid {
	l := slices.Concat(v.Members, v.Leaders, slices.Concat(v.Leaves...), list(zoe, none))
	for _, p := range v.Members {
		l = append(l, api.Pid{Id: p.Id, Inc: p.Inc + 1})
	}
	return l
}

// checkAsked asks what Rank, Leaf, Has and Leads tell, against loops that go from the end on.
func checkAsked(t *testing.T, v api.View, p api.Pid) {
	t.Helper()
	rank, leaf := -1, -1
	for at := len(v.Members) - 1; at >= 0; at-- {
		if v.Members[at] == p {
			rank = at
		}
	}
	for at := len(v.Leaves) - 1; at >= 0; at-- {
		if times(p, v.Leaves[at]) > 0 {
			leaf = at
		}
	}
	has, leads := times(p, v.Members) > 0, times(p, v.Leaders) > 0
	if view.Rank(v, p) != rank || view.Leaf(v, p) != leaf || view.Has(v, p) != has || view.Leads(v, p) != leads {
		t.Fatalf("of %v in %v: Rank %d, Leaf %d, Has %v, Leads %v, not %d, %d, %v, %v", p, v,
			view.Rank(v, p), view.Leaf(v, p), view.Has(v, p), view.Leads(v, p), rank, leaf, has, leads)
	}
}

func TestRankLeafHasLeads(t *testing.T) {
	v := five()
	for _, one := range []struct {
		p          api.Pid
		rank, leaf int
		has, leads bool
	}{
		{ann, 0, 0, true, true}, {bob, 1, 1, true, false}, {cal, 2, 2, true, true}, {dan, 3, 0, true, false}, {eve, 4, 2, true, true},
		{zoe, -1, -1, false, false}, {none, -1, -1, false, false}, {api.Pid{Id: 1, Inc: 2}, -1, -1, false, false},
	} {
		if view.Rank(v, one.p) != one.rank || view.Leaf(v, one.p) != one.leaf || view.Has(v, one.p) != one.has || view.Leads(v, one.p) != one.leads {
			t.Errorf("of %v: Rank %d, Leaf %d, Has %v, Leads %v", one.p, view.Rank(v, one.p), view.Leaf(v, one.p), view.Has(v, one.p), view.Leads(v, one.p))
		}
	}
	for _, v := range slices.Concat(goods(), turnedAbout(2000)) {
		for _, p := range asked(v) {
			checkAsked(t, v, p)
		}
	}
}

// TestAskedOfViewsThatMayNotBe: who is in one of the lists alone, stands twice, or far behind.
func TestAskedOfViewsThatMayNotBe(t *testing.T) {
	crowd := many(3000)
	for _, v := range []api.View{
		{}, {Id: 5}, {Members: list(ann, bob)}, {Leaves: leaves(nil, list(ann), list(bob, ann))}, {Leaders: list(ann, bob)},
		{Members: list(bob, ann, cal, ann), Leaves: leaves(list(bob), list(cal, ann), list(ann)), Leaders: list(zoe, ann, ann)},
		{Members: list(none, none), Leaves: leaves(nil, list(none)), Leaders: list(none)},
		{Members: crowd, Leaves: leaves(crowd[200:], nil, crowd), Leaders: crowd[2999:]},
	} {
		for _, p := range append(asked(v)[:min(len(asked(v)), 400)], ann, bob, cal, zoe, none, crowd[2999], crowd[199]) {
			checkAsked(t, v, p)
		}
	}
	for _, w := range bads() {
		for _, p := range asked(w.v) {
			checkAsked(t, w.v, p)
		}
	}
	twice := api.View{Members: list(bob, ann, cal, ann), Leaves: leaves(list(bob), list(cal, ann), list(ann)), Leaders: list(zoe, ann, ann)}
	if view.Rank(twice, ann) != 1 || view.Leaf(twice, ann) != 1 || view.Leaf(twice, zoe) != -1 || !view.Leads(twice, zoe) || view.Has(twice, zoe) {
		t.Fatal("of who stands twice, or among the leaders alone, something else is told")
	}
}

// maskOf answers the mask of ranks, made without package mask.
func maskOf(ranks ...int) api.Mask {
	var bits [128]bool
	for _, rank := range ranks {
		bits[rank] = true
	}
	var m api.Mask
	for rank, set := range bits {
		if set {
			m[rank/64] += uint64(math.Pow(2, float64(rank%64)))
		}
	}
	return m
}

func TestMask(t *testing.T) {
	v := five()
	for _, one := range []struct {
		l    []api.Pid
		want api.Mask
	}{
		{nil, api.Mask{}}, {list(), api.Mask{}}, {list(ann), api.Mask{1}}, {list(eve), api.Mask{16}}, {list(eve, ann), api.Mask{17}},
		{list(bob, bob, bob), api.Mask{2}}, {list(zoe, none), api.Mask{}}, {list(zoe, cal, none, api.Pid{Id: 1, Inc: 2}), api.Mask{4}},
		{list(eve, dan, cal, bob, ann), api.Mask{31}}, {list(ann, bob, cal, dan, eve, ann, zoe), api.Mask{31}},
	} {
		if got := view.Mask(v, one.l...); got != one.want {
			t.Errorf("Mask(%v) = %v, not %v", one.l, got, one.want)
		}
	}
	for _, v := range goods() {
		all := maskOf()
		for rank, p := range v.Members {
			if got := view.Mask(v, zoe, p); zoe.Id != p.Id && got != maskOf(rank) {
				t.Fatalf("Mask(%v, %v) = %v", v, p, got)
			}
			all[0] += 1 << rank
		}
		if got := view.Mask(v, v.Members...); got != all {
			t.Fatalf("Mask of all members of %v = %v", v, got)
		}
	}
}

// TestMaskOfViewsThatMayNotBe: the first place of who stands twice, ranks in the second number, and places that are no ranks.
func TestMaskOfViewsThatMayNotBe(t *testing.T) {
	if got := view.Mask(api.View{}, ann, none); got != (api.Mask{}) {
		t.Fatalf("Mask of no members = %v", got)
	}
	if got := view.Mask(api.View{Leaves: leaves(list(ann)), Leaders: list(ann)}, ann); got != (api.Mask{}) {
		t.Fatalf("Mask of who is no member, but stands in a leaf and leads = %v", got)
	}
	twice := api.View{Members: list(bob, ann, cal, ann, bob)}
	if got := view.Mask(twice, ann, bob); got != maskOf(0, 1) {
		t.Fatalf("Mask of who stands twice = %v", got)
	}
	if got := view.Mask(api.View{Members: list(none)}, none); got != maskOf(0) {
		t.Fatalf("Mask of a process that may not be, but is a member = %v", got)
	}
	crowd := many(300)
	v := api.View{Members: crowd}
	for rank, p := range crowd {
		want := api.Mask{}
		if rank < 128 {
			want = maskOf(rank)
		}
		if got := view.Mask(v, p); got != want {
			t.Fatalf("Mask of the place %d = %v, not %v", rank, got, want)
		}
	}
	if got := view.Mask(v, crowd...); got != (api.Mask{math.MaxUint64, math.MaxUint64}) {
		t.Fatalf("Mask of all = %v", got)
	}
}

func TestQuorum(t *testing.T) {
	v := five()
	for _, one := range []struct {
		l    []api.Pid
		want bool
	}{
		{nil, false}, {list(ann), false}, {list(ann, ann), false}, {list(ann, ann, ann, ann), false}, {list(ann, bob, dan), false}, {list(bob, dan, zoe, none), false},
		{list(ann, cal), true}, {list(eve, ann), true}, {list(eve, cal), true}, {list(eve, cal, ann), true}, {list(ann, bob, cal, dan, eve), true}, {list(eve, zoe, ann, eve), true},
		{list(ann, api.Pid{Id: 0, Inc: 2}), false},
	} {
		if got := view.Quorum(v, one.l...); got != one.want {
			t.Errorf("Quorum(%v) = %v", one.l, got)
		}
	}
	// Of n leaders, the first k of them, and all who don't lead.
	members := many(api.MaxProcs)
	for n := range api.MaxProcs + 1 {
		v := single(members...)
		v.Leaders = members[api.MaxProcs-n:]
		for k := range n + 1 {
			l := slices.Concat(members[:api.MaxProcs-n], v.Leaders[:k], v.Leaders[:k])
			if got := view.Quorum(v, l...); got != (k > n/2) {
				t.Errorf("Quorum of %d of %d leaders = %v", k, n, got)
			}
		}
	}
}

// TestQuorumOfViewsThatMayNotBe: who stands twice among the leaders counts once, but is half of two all the same.
func TestQuorumOfViewsThatMayNotBe(t *testing.T) {
	for _, one := range []struct {
		leaders, l []api.Pid
		want       bool
	}{
		{nil, nil, false}, {nil, list(ann, none), false},
		{list(none), list(none), true}, {list(none), list(ann), false}, {list(zoe), list(zoe), true},
		{list(ann, ann), list(ann), false}, {list(ann, ann), list(ann, ann), false}, {list(ann, ann, ann), list(ann, ann, ann), false},
		{list(ann, ann, bob), list(ann), false}, {list(ann, ann, bob), list(bob), false}, {list(ann, ann, bob), list(ann, bob), true}, {list(bob, ann, ann), list(bob, ann), true},
		{list(ann, ann, bob, bob), list(ann, bob), false}, {list(ann, ann, bob, cal), list(ann, bob), false}, {list(ann, ann, bob, cal), list(ann, bob, cal), true},
		{list(cal, bob, ann), list(ann, bob), true}, {list(cal, bob, ann), list(ann, ann), false},
	} {
		for _, members := range [][]api.Pid{nil, list(ann, bob, cal), list(ann, ann)} {
			v := api.View{Members: members, Leaders: one.leaders}
			if got := view.Quorum(v, one.l...); got != one.want {
				t.Errorf("leaders %v: Quorum(%v) = %v", one.leaders, one.l, got)
			}
		}
	}
}

// P8.2

// numbers answers the short forms of all, one behind the other.
func numbers(all ...uint64) []byte {
	var b []byte
	for _, n := range all {
		b = binary.AppendUvarint(b, n)
	}
	return b
}

// join answers all parts in new memory, one behind the other.
func join(parts ...[]byte) []byte { return slices.Concat(parts...) }

// counted answers how many numbers there are, and they.
func counted(ranks ...uint64) []byte {
	return numbers(append([]uint64{uint64(len(ranks))}, ranks...)...)
}

// pidsForm answers the form of processes, made without package body.
func pidsForm(l []api.Pid) []byte {
	b := numbers(uint64(len(l)))
	for _, p := range l {
		b = join(b, numbers(uint64(p.Id), uint64(p.Inc)))
	}
	return b
}

// ranksForm answers the form of some of the members, of who is none the rank 0.
func ranksForm(members, l []api.Pid) []byte {
	var ranks []uint64
	for _, p := range l {
		ranks = append(ranks, uint64(max(0, slices.Index(members, p))))
	}
	return counted(ranks...)
}

// formOf answers v's form, made without package view, be it one that may be or not.
func formOf(v api.View) []byte {
	b := join(numbers(v.Id), pidsForm(v.Members), numbers(uint64(len(v.Leaves))))
	for _, leaf := range v.Leaves {
		b = join(b, ranksForm(v.Members, leaf))
	}
	return join(b, ranksForm(v.Members, v.Leaders))
}

// laid answers what a Writer has that has laid v.
func laid(v api.View) []byte {
	w := &body.Writer{}
	view.Put(w, v)
	return w.Done()
}

func TestPutOfTheExample(t *testing.T) {
	want := []byte{1, 3, 1, 1, 2, 1, 3, 1, 2, 2, 0, 2, 1, 1, 2, 0, 1}
	if got := laid(example()); !bytes.Equal(got, want) {
		t.Fatalf("Put = % x, not % x", got, want)
	}
	want = []byte{0xac, 2, 5, 1, 1, 2, 7, 0, 1, 15, 255, 255, 255, 255, 15, 9, 0xac, 2, 3, 2, 0, 3, 1, 1, 2, 2, 4, 3, 0, 2, 4}
	if got := laid(five()); !bytes.Equal(got, want) {
		t.Fatalf("Put = % x, not % x", got, want)
	}
}

func TestPut(t *testing.T) {
	for _, v := range goods() {
		if got := laid(v); !bytes.Equal(got, formOf(v)) {
			t.Fatalf("Put(%v) = % x, not % x", v, got, formOf(v))
		}
		// It is laid behind what is there.
		w := &body.Writer{}
		w.Num(300)
		view.Put(w, v)
		view.Put(w, example())
		w.Truth(true)
		if got := w.Done(); !bytes.Equal(got, join(numbers(300), formOf(v), formOf(example()), []byte{1})) {
			t.Fatalf("Put(%v) among others = % x", v, got)
		}
		view.Put(nil, v)
	}
}

func TestPutOfWhatMayNotBe(t *testing.T) {
	check := func(v api.View) {
		if got := laid(v); len(got) != 0 {
			t.Fatalf("Put(%v) = % x", v, got)
		}
		w := &body.Writer{}
		w.Num(300)
		view.Put(w, v)
		w.Truth(true)
		if got := w.Done(); !bytes.Equal(got, []byte{0xac, 2, 1}) {
			t.Fatalf("Put(%v) among others = % x", v, got)
		}
		view.Put(nil, v)
	}
	for _, w := range bads() {
		check(w.v)
	}
	for _, v := range turnedAbout(5000) {
		if !mayBe(v) {
			check(v)
		}
	}
}

// isZero tells whether a view is a zero one; nil and no elements are both nothing.
func isZero(v api.View) bool {
	return v.Id == 0 && len(v.Members) == 0 && len(v.Leaves) == 0 && len(v.Leaders) == 0
}

// alike tells whether two views are the same, held against each other without package view.
func alike(v, w api.View) bool {
	if v.Id != w.Id || len(v.Leaves) != len(w.Leaves) {
		return false
	}
	for at := range v.Leaves {
		if !slices.Equal(v.Leaves[at], w.Leaves[at]) {
			return false
		}
	}
	return slices.Equal(v.Members, w.Members) && slices.Equal(v.Leaders, w.Leaders)
}

// checkStops asks whether Get is stopped by want with so many bytes left, whatever is ahead of it.
func checkStops(t *testing.T, why string, form []byte, want api.Errno, left int) {
	t.Helper()
	for _, ahead := range [][]byte{nil, {7}, {7, 7, 7}} {
		r := body.Read(join(ahead, form))
		for range ahead {
			r.Num(7)
		}
		if got := view.Get(r); !isZero(got) || r.Err() != want || r.Left() != left {
			t.Fatalf("%s: Get of % x = %v, Err %d, Left %d, not %d, %d", why, form, got, r.Err(), r.Left(), want, left)
		}
		// It stays so.
		if got := view.Get(r); !isZero(got) || r.Err() != want || r.Left() != left || r.Num(math.MaxUint64) != 0 || r.End() != want {
			t.Fatalf("%s: a second Get of % x = %v, Err %d, Left %d", why, form, got, r.Err(), r.Left())
		}
	}
}

// checkReads asks whether Get reads v at a form's beginning, and leaves what is behind it.
func checkReads(t *testing.T, form []byte, v api.View) {
	t.Helper()
	for _, behind := range [][]byte{nil, {0}, {1}, {0x80}, {255, 255, 255}, form} {
		r := body.Read(join(form, behind))
		if got := view.Get(r); !alike(got, v) || r.Err() != api.OK || r.Left() != len(behind) {
			t.Fatalf("Get of % x = %v, Err %d, Left %d", form, got, r.Err(), r.Left())
		}
	}
}

func TestGet(t *testing.T) {
	for _, v := range goods() {
		checkReads(t, formOf(v), v)
	}
	r := body.Read(join(formOf(example()), formOf(five()), []byte{9}))
	if first, second := view.Get(r), view.Get(r); !alike(first, example()) || !alike(second, five()) || r.Num(9) != 9 || r.End() != api.OK {
		t.Fatalf("Get of two, one behind the other = %v, %v, Err %d", first, second, r.Err())
	}
}

// TestGetOfEachBeginning: what is cut stops the reader at the number, or the list of members, that isn't whole.
func TestGetOfEachBeginning(t *testing.T) {
	for _, v := range []api.View{example(), five(), single(dan), single(many(api.MaxProcs)...)} {
		form := formOf(v)
		for cut := range form {
			r := body.Read(form[:cut])
			got := view.Get(r)
			_, left, want := second(form[:cut])
			if !isZero(got) || r.Err() != api.ErrShort || want != api.ErrShort || r.Left() != left {
				t.Fatalf("Get of % x = %v, Err %d, Left %d, not %d, %d", form[:cut], got, r.Err(), r.Left(), want, left)
			}
		}
	}
	form := formOf(example())
	checkStops(t, "nothing", nil, api.ErrShort, 0)
	checkStops(t, "members cut", form[:6], api.ErrShort, 5)
	checkStops(t, "no leaves", form[:8], api.ErrShort, 0)
	checkStops(t, "a leaf cut", form[:11], api.ErrShort, 0)
	checkStops(t, "no leaders", form[:14], api.ErrShort, 0)
	checkStops(t, "an Id cut", []byte{0x80}, api.ErrShort, 1)
}

func TestGetOfNumbersThatAreTooGreat(t *testing.T) {
	tail := []byte{1, 1, 0, 1, 0} // a leaf with the eldest, who leads
	two := append(pidsForm(list(ann, bob)), tail...)
	for _, id := range []uint64{api.Ceiling + 1, 1 << 63, math.MaxUint64} {
		form := join(numbers(id), two)
		checkStops(t, "Id", form, api.ErrLong, len(form))
		checkStops(t, "Id alone", numbers(id), api.ErrLong, len(numbers(id)))
	}
	for _, n := range []uint64{api.MaxMembers + 1, 26, 127, 128, 1 << 16, 1 << 32, 1<<32 + 1, 1 << 63, math.MaxUint64} {
		for _, behind := range [][]byte{nil, {1}, {0x81, 0}, bytes.Repeat([]byte{1}, 100)} {
			many := join(numbers(n), behind)
			checkStops(t, "members", join([]byte{1}, many), api.ErrLong, len(many))
			checkStops(t, "leaves", join([]byte{1}, pidsForm(list(ann)), many), api.ErrLong, len(many))
			checkStops(t, "a leaf's elements", join([]byte{1}, pidsForm(list(ann)), []byte{1}, many), api.ErrLong, len(many))
			checkStops(t, "a second leaf's elements", join([]byte{1}, pidsForm(list(ann, bob)), []byte{2, 1, 0}, many), api.ErrLong, len(many))
			checkStops(t, "leaders", join([]byte{1}, pidsForm(list(ann)), []byte{1, 1, 0}, many), api.ErrLong, len(many))
			// As many are too great ranks, of whatever list.
			checkStops(t, "a leaf's rank", join([]byte{1}, pidsForm(list(ann)), []byte{1, 1}, many), api.ErrLong, len(many))
			checkStops(t, "a leader's rank", join([]byte{1}, pidsForm(list(ann)), []byte{1, 1, 0, 1}, many), api.ErrLong, len(many))
		}
	}
}

// TestGetOfTheMostOfEach: as many as there may be are read; then it is told that they may not be.
func TestGetOfTheMostOfEach(t *testing.T) {
	most := many(api.MaxMembers)
	ranks := make([]uint64, api.MaxMembers)
	for _, form := range [][]byte{
		join([]byte{1}, pidsForm(most), []byte{1}, counted(ranks...), counted(0)),
		join([]byte{1}, pidsForm(list(ann)), []byte{1}, counted(ranks...), counted(0)),
		join([]byte{1}, pidsForm(list(ann)), []byte{1}, counted(0), counted(ranks...)),
		join([]byte{1}, pidsForm(list(ann)), counted(ranks...), counted(0)),
		join([]byte{1}, pidsForm(list(ann)), numbers(api.MaxMembers), bytes.Repeat(counted(ranks...), api.MaxMembers), counted(ranks...)),
	} {
		checkStops(t, "the most", form, api.ErrForm, 0)
		checkStops(t, "the most", append(form, 9, 9), api.ErrForm, 2)
	}
	// One more of the longest one stops it there.
	form := join([]byte{1}, pidsForm(most), numbers(api.MaxMembers), bytes.Repeat(counted(ranks...), api.MaxMembers), []byte{api.MaxMembers + 1})
	checkStops(t, "one more leader", form, api.ErrLong, 1)
}

func TestGetOfRanks(t *testing.T) {
	for n := 1; n <= api.MaxMembers; n++ {
		head := join([]byte{1}, pidsForm(many(n)))
		last, behind := uint64(n-1), uint64(n)
		want := api.ErrForm
		if n == 1 {
			want = api.OK
		}
		for _, one := range []struct {
			tail []byte
			want api.Errno
			left int
		}{
			{[]byte{1, 1, byte(last), 1, byte(last)}, want, 0},
			{[]byte{1, 1, byte(behind), 1, 0}, api.ErrLong, 3},
			{[]byte{1, 2, 0, byte(behind), 1, 0}, api.ErrLong, 3},
			{[]byte{2, 1, 0, 1, byte(behind), 1, 0}, api.ErrLong, 3},
			{[]byte{1, 1, 0, 1, byte(behind)}, api.ErrLong, 1},
			{[]byte{1, 1, 0, 2, 0, byte(behind), 7}, api.ErrLong, 2},
			{[]byte{1, 1, 0, 2, 0}, api.ErrShort, 0},
			{[]byte{1, 1, 0, 2, 0, 0x80}, api.ErrShort, 1},
			{[]byte{1, 1, 0, 2, 0, 0x81, 0}, api.ErrForm, 2},
		} {
			if one.want == api.OK {
				checkReads(t, join(head, one.tail), single(many(n)...))
			} else {
				checkStops(t, "ranks of "+strconv.Itoa(n), join(head, one.tail), one.want, one.left)
			}
		}
	}
}

// TestGetOfRanksWithoutMembers: the first rank stops it, be it there or not; where none is told, it is no view that may be.
func TestGetOfRanksWithoutMembers(t *testing.T) {
	for _, head := range [][]byte{{1, 0}, {0, 0}, {127, 0}} {
		for _, behind := range [][]byte{nil, {0}, {1, 0}, {0x80}, {0x81, 0}, {0, 0, 0, 0}} {
			for _, lists := range [][]byte{{1, 1}, {1, 24}, {2, 0, 1}, {24, 0, 0, 3}, {0, 1}, {0, 24}, {1, 0, 1}, {2, 0, 0, 2}} {
				checkStops(t, "ranks without members", join(head, lists, behind), api.ErrLong, len(behind))
			}
			for _, lists := range [][]byte{{0, 0}, {1, 0, 0}, {3, 0, 0, 0, 0}} {
				checkStops(t, "no ranks and no members", join(head, lists, behind), api.ErrForm, len(behind))
			}
		}
	}
	// How many there are is told ahead of it.
	checkStops(t, "too many elements", []byte{1, 0, 1, 25, 0}, api.ErrLong, 2)
	checkStops(t, "how many elements isn't told", []byte{1, 0, 1}, api.ErrShort, 0)
	checkStops(t, "how many leaders isn't told", []byte{1, 0, 0}, api.ErrShort, 0)
	checkStops(t, "how many leaders isn't told whole", []byte{1, 0, 0, 0x80}, api.ErrShort, 1)
}

// TestGetOfMembersThatCantBeRead: layer 3's errors; the list of the members is taken back.
func TestGetOfMembersThatCantBeRead(t *testing.T) {
	for _, one := range []struct {
		b    []byte
		want api.Errno
	}{
		{nil, api.ErrShort}, {[]byte{1}, api.ErrShort}, {[]byte{1, 0x80}, api.ErrShort},
		{[]byte{0x81, 0}, api.ErrForm}, {[]byte{1, 0x81, 0}, api.ErrForm}, {numbers(1<<16, 1), api.ErrForm}, {numbers(1, 1<<32), api.ErrForm},
	} {
		for n := range 3 {
			rest := join(numbers(uint64(n+1)), bytes.Repeat([]byte{3, 1}, n), one.b)
			checkStops(t, "members", join([]byte{1}, rest), one.want, len(rest))
		}
	}
}

func TestGetOfTheFormOfAViewThatMayNotBe(t *testing.T) {
	two := pidsForm(list(ann, bob))
	for _, one := range []struct {
		why  string
		form []byte
	}{
		{"an Id of 0", join([]byte{0}, two, []byte{1, 2, 0, 1, 1, 0})},
		{"two of the same Id", join([]byte{1}, pidsForm(list(ann, api.Pid{Id: 1, Inc: 2})), []byte{1, 2, 0, 1, 1, 0})},
		{"a member twice", join([]byte{1}, pidsForm(list(ann, ann)), []byte{1, 2, 0, 1, 1, 0})},
		{"a member that may not be", join([]byte{1}, pidsForm(list(ann, none)), []byte{1, 2, 0, 1, 1, 0})},
		{"a member of no Inc", join([]byte{1}, pidsForm(list(ann, api.Pid{Id: 2})), []byte{1, 2, 0, 1, 1, 0})},
		{"a member of a great Id", join([]byte{1}, pidsForm(list(ann, api.Pid{Id: 16, Inc: 1})), []byte{1, 2, 0, 1, 1, 0})},
		{"no leaf", join([]byte{1}, two, []byte{0, 1, 0})},
		{"in no leaf", join([]byte{1}, two, []byte{1, 1, 0, 1, 0})},
		{"in two leaves", join([]byte{1}, two, []byte{2, 2, 0, 1, 1, 1, 1, 0})},
		{"twice in a leaf", join([]byte{1}, two, []byte{1, 3, 0, 1, 1, 1, 0})},
		{"a leaf with nobody", join([]byte{1}, two, []byte{2, 2, 0, 1, 0, 1, 0})},
		{"a leaf out of order", join([]byte{1}, two, []byte{1, 2, 1, 0, 1, 0})},
		{"leaves out of order", join([]byte{1}, two, []byte{2, 1, 1, 1, 0, 1, 0})},
		{"no leader", join([]byte{1}, two, []byte{1, 2, 0, 1, 0})},
		{"a leader twice", join([]byte{1}, two, []byte{1, 2, 0, 1, 2, 1, 1})},
		{"leaders out of order", join([]byte{1}, two, []byte{1, 2, 0, 1, 2, 1, 0})},
	} {
		// It is told behind all of the form, and ahead of what else is there.
		for _, behind := range [][]byte{nil, {0}, {0x81, 0}, {9, 9, 9}} {
			checkStops(t, one.why, join(one.form, behind), api.ErrForm, len(behind))
		}
		// What isn't whole is told first.
		checkStops(t, one.why+", cut", one.form[:len(one.form)-1], api.ErrShort, 0)
	}
	for _, w := range bads() {
		form := formOf(w.v)
		_, left, want := second(form)
		if want == api.OK { // who is no member has no rank, so that this is another view's form
			continue
		}
		checkStops(t, w.why, form, want, left)
	}
}

func TestGetOfAReaderThatIsStopped(t *testing.T) {
	form := formOf(five())
	for _, e := range []api.Errno{api.ErrArg, api.ErrShort, api.ErrForm, api.ErrDead, -1} {
		r := body.Read(form)
		r.Stop(e)
		if got := view.Get(r); !isZero(got) || r.Err() != e || r.Left() != len(form) {
			t.Fatalf("Get of a Reader that %d has stopped = %v, Err %d, Left %d", e, got, r.Err(), r.Left())
		}
	}
	if got := view.Get(nil); !isZero(got) {
		t.Fatalf("Get of a nil Reader = %v", got)
	}
	var zero body.Reader
	if got := view.Get(&zero); !isZero(got) || zero.Err() != api.ErrShort {
		t.Fatalf("Get of a zero Reader = %v, Err %d", got, zero.Err())
	}
}

// A model reads a form as the chapters tell it, without package body: by places in a row.
type model struct {
	b  []byte
	at int
	e  api.Errno
}

// short answers the number at a place, and the place behind it.
func (m *model) short(at int) (n uint64, behind int, e api.Errno) {
	n, used := binary.Uvarint(m.b[at:])
	switch {
	case used == 0 && len(m.b)-at < 10:
		return 0, at, api.ErrShort
	case used <= 0 || used > 1 && m.b[at+used-1] == 0:
		return 0, at, api.ErrForm
	}
	return n, at + used, api.OK
}

// num reads a number up to most.
func (m *model) num(most uint64) uint64 {
	if m.e != api.OK {
		return 0
	}
	n, behind, e := m.short(m.at)
	if e == api.OK && n > most {
		e = api.ErrLong
	}
	if e != api.OK {
		m.e = e
		return 0
	}
	m.at = behind
	return n
}

// pids reads the members.
func (m *model) pids() []api.Pid {
	from := m.at
	var l []api.Pid
	for n := m.num(24); n > 0 && m.e == api.OK; n-- {
		id, behind, e := m.short(m.at)
		var inc uint64
		if e == api.OK {
			inc, behind, e = m.short(behind)
		}
		if e == api.OK && (id > math.MaxUint16 || inc > math.MaxUint32) {
			e = api.ErrForm
		}
		m.at, m.e = behind, e
		l = append(l, api.Pid{Id: uint16(id), Inc: uint32(inc)})
	}
	if m.e != api.OK {
		m.at = from
	}
	return l
}

// some reads some of the members.
func (m *model) some(members []api.Pid) []api.Pid {
	var l []api.Pid
	for n := m.num(24); n > 0 && m.e == api.OK; n-- {
		if len(members) == 0 {
			m.e = api.ErrLong
			break
		}
		rank := m.num(uint64(len(members)) - 1)
		if m.e == api.OK {
			l = append(l, members[rank])
		}
	}
	return l
}

// second answers what a second reading of the chapter reads in b: the view, how many bytes are left, what stopped it.
func second(b []byte) (v api.View, left int, e api.Errno) {
	m := &model{b: b}
	v.Id = m.num(1 << 62)
	v.Members = m.pids()
	for n := m.num(24); n > 0 && m.e == api.OK; n-- {
		v.Leaves = append(v.Leaves, m.some(v.Members))
	}
	v.Leaders = m.some(v.Members)
	if m.e == api.OK && !mayBe(v) {
		m.e = api.ErrForm
	}
	if m.e != api.OK {
		v = api.View{}
	}
	return v, len(b) - m.at, m.e
}

// against asks whether Get reads of b what the second reading does, and answers what stopped it.
func against(t *testing.T, b []byte) api.Errno {
	t.Helper()
	want, left, e := second(b)
	r := body.Read(b)
	if got := view.Get(r); !alike(got, want) || r.Left() != left || r.Err() != e {
		t.Fatalf("Get of % x = %v, Left %d, Err %d, not %v, %d, %d", b, got, r.Left(), r.Err(), want, left, e)
	}
	return e
}

// TestGetOfFormsWithOneByteOfAnother: each other byte at each place, each byte left out, some bytes put in.
func TestGetOfFormsWithOneByteOfAnother(t *testing.T) {
	told := map[api.Errno]int{}
	for _, v := range append(allViews(3, list(bob, ann, cal)), example(), five(), single(dan)) {
		form := formOf(v)
		for at := range form {
			for other := range 256 {
				turned := bytes.Clone(form)
				turned[at] = byte(other)
				told[against(t, turned)]++
			}
			told[against(t, slices.Delete(bytes.Clone(form), at, at+1))]++
			for _, more := range []byte{0, 1, 2, 3, 0x7f, 0x80, 0xff} {
				told[against(t, slices.Insert(bytes.Clone(form), at, more))]++
			}
		}
	}
	for _, e := range []api.Errno{api.OK, api.ErrShort, api.ErrLong, api.ErrForm} {
		if told[e] < 100 {
			t.Fatalf("%d is told %d times: the test asks too little", e, told[e])
		}
	}
}

// TestGetOfAllShortRows: of all rows of some bytes behind some beginnings.
func TestGetOfAllShortRows(t *testing.T) {
	heads := [][]byte{nil, {1}, {1, 0}, {1, 1, 3, 1}, {0, 1, 3, 1}, {1, 2, 3, 1, 2, 1}, {1, 2, 3, 1, 3, 1}, {1, 2, 3, 1, 2, 1, 2, 1, 0}}
	for _, row := range listsOf(5, byte(0), 1, 2, 3, 24, 25, 0x80) {
		for _, head := range heads {
			against(t, join(head, row))
		}
	}
}

// TestGetOfAnyRows: of many rows, some of which begin as views do.
func TestGetOfAnyRows(t *testing.T) {
	source := rand.New(rand.NewSource(21))
	for range 100000 {
		b := numbers(source.Uint64() >> source.Intn(64))
		if source.Intn(4) > 0 {
			b = join([]byte{1}, pidsForm(many(source.Intn(4))))
		}
		for range source.Intn(16) {
			b = append(b, []byte{0, 0, 1, 1, 2, 2, 3, 4, 24, 25, 0x7f, 0x80, 0xff}[source.Intn(13)])
		}
		against(t, b)
	}
}

// P8.3

func TestWhatIsLaidIsReadAsItWas(t *testing.T) {
	w := &body.Writer{}
	for _, v := range goods() {
		checkReads(t, laid(v), v)
		view.Put(w, v)
	}
	r := body.Read(w.Done())
	for _, v := range goods() {
		if got := view.Get(r); !alike(got, v) || !view.Same(got, v) {
			t.Fatalf("%v is read as %v, Err %d", v, got, r.Err())
		}
	}
	if r.End() != api.OK {
		t.Fatalf("End = %d", r.End())
	}
}

// unlike answers views of which no two are the same.
func unlike() []api.View {
	return []api.View{
		{}, {Id: 1}, {Id: math.MaxUint64}, {Members: list(ann)}, {Members: list(none)}, {Members: list(ann, bob)}, {Members: list(bob, ann)}, {Members: list(ann, ann)},
		{Members: list(api.Pid{Id: 1, Inc: 2})}, {Members: list(api.Pid{Id: 2, Inc: 1})},
		{Leaves: leaves(nil)}, {Leaves: leaves(nil, nil)}, {Leaves: leaves(list(ann))}, {Leaves: leaves(list(ann), nil)}, {Leaves: leaves(nil, list(ann))},
		{Leaves: leaves(list(ann, bob))}, {Leaves: leaves(list(ann), list(bob))}, {Leaves: leaves(list(bob), list(ann))}, {Leaves: leaves(list(bob, ann))}, {Leaves: leaves(list(none))},
		{Leaders: list(ann)}, {Leaders: list(none)}, {Leaders: list(ann, bob)}, {Leaders: list(bob, ann)}, {Leaders: list(bob)},
		{Members: list(ann), Leaders: list(ann)}, {Id: 1, Members: list(ann), Leaves: leaves(list(ann)), Leaders: list(ann)}, {Id: 2, Members: list(ann), Leaves: leaves(list(ann)), Leaders: list(ann)},
		example(), five(),
	}
}

func TestSame(t *testing.T) {
	for at, v := range unlike() {
		for other, w := range unlike() {
			if got := view.Same(v, w); got != (at == other) {
				t.Fatalf("Same(%v, %v) = %v", v, w, got)
			}
		}
	}
	all := append(turnedAbout(300), goods()[:50]...)
	for _, v := range all {
		for _, w := range all {
			if got := view.Same(v, w); got != alike(v, w) {
				t.Fatalf("Same(%v, %v) = %v", v, w, got)
			}
		}
	}
	// Nil and no elements are both nothing.
	empty := api.View{Members: list(), Leaves: leaves(), Leaders: list()}
	if !view.Same(empty, api.View{}) || !view.Same(api.View{}, empty) {
		t.Fatal("a list without elements isn't the same as nil")
	}
	if v, w := (api.View{Leaves: leaves(nil, list(ann))}), (api.View{Leaves: leaves([]api.Pid{}, list(ann))}); !view.Same(v, w) || !view.Same(w, v) {
		t.Fatal("a leaf without elements isn't the same as nil")
	}
}

// spoil turns all that a view holds, and what is in the room behind.
func spoil(v api.View) {
	for _, l := range append(slices.Clone(v.Leaves[:cap(v.Leaves)]), v.Members, v.Leaders) {
		l = l[:cap(l)]
		for at := range l {
			l[at] = api.Pid{Id: 99, Inc: 99}
		}
	}
	whole := v.Leaves[:cap(v.Leaves)]
	for at := range whole {
		whole[at] = list(api.Pid{Id: 98, Inc: 98})
	}
}

// checkApart asks whether the lists of some views share no memory with each other, nor do the rooms behind them: each is marked, and then keeps its own mark.
func checkApart(t *testing.T, what string, views ...api.View) {
	t.Helper()
	mark := func(at int) api.Pid { return api.Pid{Id: 99, Inc: uint32(at)} }
	var lists [][]api.Pid
	for _, v := range views {
		lists = append(append(lists, v.Members, v.Leaders), v.Leaves...)
	}
	for at, l := range lists {
		for place := range l[:cap(l)] {
			l[:cap(l)][place] = mark(at)
		}
	}
	for at, l := range lists {
		if times(mark(at), l[:cap(l)]) != cap(l) {
			t.Fatalf("%s: two lists share memory", what)
		}
	}
	for at, v := range views {
		for place := range v.Leaves[:cap(v.Leaves)] {
			v.Leaves[:cap(v.Leaves)][place] = list(mark(at))
		}
	}
	for at, v := range views {
		for _, leaf := range v.Leaves[:cap(v.Leaves)] {
			if leaf[0] != mark(at) {
				t.Fatalf("%s: two lists of leaves share memory", what)
			}
		}
	}
}

func TestCopy(t *testing.T) {
	all := slices.Concat(goods(), unlike(), turnedAbout(500))
	for _, w := range bads() {
		all = append(all, w.v)
	}
	for _, v := range all {
		first, other := view.Copy(v), view.Copy(v)
		if !alike(first, v) || !view.Same(first, v) {
			t.Fatalf("Copy(%v) = %v", v, first)
		}
		spoil(first)
		if !alike(other, v) {
			t.Fatalf("two copies of %v share memory", v)
		}
		again := view.Copy(other)
		spoil(other)
		if !alike(again, view.Copy(v)) {
			t.Fatalf("Copy of %v shares memory with it", v)
		}
		checkApart(t, "Copy", again)
	}
}

func TestCopyIsNewMemory(t *testing.T) {
	v, want := five(), five()
	got := view.Copy(v)
	spoil(got)
	if !alike(v, want) {
		t.Fatalf("the copy shares memory with what was copied: %v", v)
	}
	got = view.Copy(v)
	_, _, _ = append(got.Members, zoe), append(got.Leaders, zoe), append(got.Leaves[0], zoe)
	spoil(v)
	if !alike(got, want) {
		t.Fatalf("what was copied shares memory with the copy: %v", got)
	}
	// All lists of one are the same memory: those of its copy aren't.
	l := list(ann, bob, cal)
	checkApart(t, "Copy of one whose lists share memory", view.Copy(api.View{Id: 1, Members: l, Leaves: leaves(l, l[:2], l), Leaders: l}))
}

func TestGetAndParseAnswerNewMemory(t *testing.T) {
	for _, v := range goods() {
		form := formOf(v)
		r := body.Read(form)
		checkApart(t, "Get", view.Get(r), view.Get(body.Read(form)))
		if !bytes.Equal(form, formOf(v)) {
			t.Fatal("what was read is changed")
		}
		s := textOf(v)
		one, _ := view.Parse(s)
		other, _ := view.Parse(s)
		checkApart(t, "Parse", one, other)
	}
}

// P8.4

// textOf answers v's text, made without packages view and pid.
func textOf(v api.View) string {
	var text strings.Builder
	text.WriteString(strconv.FormatUint(v.Id, 10))
	for _, p := range v.Members {
		text.WriteString(" " + strconv.Itoa(int(p.Id)) + "." + strconv.Itoa(int(p.Inc)) + "/")
		for place, leaf := range v.Leaves {
			if times(p, leaf) > 0 {
				text.WriteString(strconv.Itoa(place))
			}
		}
		text.WriteString(strings.Repeat("*", times(p, v.Leaders)))
	}
	return text.String()
}

func TestPrint(t *testing.T) {
	for want, v := range map[string]api.View{
		"1 1.1/0* 2.1/1* 3.1/0":                            example(),
		"300 1.1/0* 2.7/1 0.1/2* 15.4294967295/0 9.300/2*": five(),
		"1 0.1/0*": single(cal),
	} {
		if got, errno := view.Print(v); got != want || errno != api.OK {
			t.Errorf("Print = %q, %d, not %q", got, errno, want)
		}
	}
	for _, v := range goods() {
		if got, errno := view.Print(v); got != textOf(v) || errno != api.OK {
			t.Fatalf("Print(%v) = %q, %d, not %q", v, got, errno, textOf(v))
		}
	}
	var all []api.View
	for _, w := range bads() {
		all = append(all, w.v)
	}
	for _, v := range append(turnedAbout(5000), all...) {
		if got, errno := view.Print(v); !mayBe(v) && (got != "" || errno != api.ErrArg) {
			t.Fatalf("Print(%v) = %q, %d", v, got, errno)
		}
	}
}

func TestParse(t *testing.T) {
	for _, v := range goods() {
		if got, errno := view.Parse(textOf(v)); errno != api.OK || !alike(got, v) {
			t.Fatalf("Parse(%q) = %v, %d", textOf(v), got, errno)
		}
	}
	v := five()
	v.Id = api.Ceiling
	if got, errno := view.Parse("4611686018427387904 1.1/0* 2.7/1 0.1/2* 15.4294967295/0 9.300/2*"); errno != api.OK || !alike(got, v) {
		t.Fatalf("Parse of a view of Ceiling = %v, %d", got, errno)
	}
	var text strings.Builder
	text.WriteString("9")
	for id := range api.MaxProcs {
		text.WriteString(" " + strconv.Itoa(id) + ".1/" + strconv.Itoa(id) + "*")
	}
	if got, errno := view.Parse(text.String()); errno != api.OK || len(got.Leaves) != api.MaxProcs || textOf(got) != text.String() {
		t.Fatalf("Parse of as many leaves as may be = %v, %d", got, errno)
	}
}

// nearly answers texts that are nearly a view's.
func nearly() []string {
	all := []string{
		"", " ", "  ", "*", "/", ".", "1", "1 ", " 1", "0", "x", "1.1/0*", " 1.1/0*", "1  1.1/0*", "1 1.1/0* ", " 1 1.1/0*", "1 1.1/0*\n", "1\t1.1/0*", "1 1.1/0*\x00", "1 1.1/0**", "1 1.1/0 *",
		"0 1.1/0*", "01 1.1/0*", "+1 1.1/0*", "-1 1.1/0*", "1_0 1.1/0*", "0x1 1.1/0*", "1e1 1.1/0*", "1. 1.1/0*", "\uff11 1.1/0*",
		"4611686018427387905 1.1/0*", "18446744073709551615 1.1/0*", "18446744073709551616 1.1/0*", "18446744073709551617 1.1/0*", "99999999999999999999999 1.1/0*",
		"1 1.1/0", "1 1.1/1*", "1 1.1*/0", "1 *1.1/0", "1 1.1/*0", "1 1.1/", "1 1.1/*", "1 1.1", "1 1.1*", "1 /0*", "1 1/0*", "1 1./0*", "1 .1/0*", "1 1.1/0/0*", "1 1.1//0*", "1 1.1.1/0*", "1 1.1/0*/", "1 1.1/0*1.1/0*", "1,1.1/0*", "1 1.1/0*,2.1/0",
		"1 01.1/0*", "1 1.01/0*", "1 1.1/00*", "1 1.1/-0*", "1 1.1/+0*", "1 +1.1/0*", "1 1.+1/0*", "1 1.1/0x0*", "1 1.1/0.0*",
		"1 1.0/0*", "1 16.1/0*", "1 65536.1/0*", "1 65535.1/0*", "1 1.4294967296/0*", "1 1.4294967297/0*", "1 65537.1/0*", "1 0.0/0*", "1 -1.1/0*",
		"1 1.1/0* 2.1/2", "1 1.1/1* 2.1/0", "1 1.1/0* 2.1/-1", "1 1.1/0* 2.1/18446744073709551615", "1 1.1/0* 2.1/18446744073709551616", "1 1.1/0* 2.1/4294967296", "1 1.1/0* 2.1/99999999999999999999", "1 1.1/0* 2.1/9223372036854775807",
		"1 1.1/0* 1.1/0", "1 1.1/0* 1.2/0", "1 1.1/0* 1.1/1*", "1 1.1/0 2.1/0", "1 1.1/0* 2.1/0  3.1/0", "1 1.1/0*2.1/0", "1 1.1/0* 2.1", "1 1.1/0* 2", "1 1.1/0* 2.1/1 3.1/3", "1 1.1/0* 2.1/1 3.1/0 4.1/3",
		"?", "view 1 1.1/0*", "{1 1.1/0*}",
	}
	var crowd strings.Builder
	crowd.WriteString("1")
	for n := range 200 {
		crowd.WriteString(" " + strconv.Itoa(n%16) + "." + strconv.Itoa(1+n/16) + "/0*")
		if n >= api.MaxProcs {
			all = append(all, crowd.String())
		}
	}
	return append(all, strings.Repeat("1", 1<<20), strings.Repeat(" ", 1<<20), "1"+strings.Repeat(" 1.1/0*", 1<<18), "1 1.1/"+strings.Repeat("0", 1<<20), "1 1.1/0"+strings.Repeat("*", 1<<20), "1 1."+strings.Repeat("1", 1<<20)+"/0*")
}

func TestParseOfTextsThatAreNearlyAViews(t *testing.T) {
	for _, s := range nearly() {
		if got, errno := view.Parse(s); errno != api.ErrForm || !isZero(got) {
			t.Errorf("Parse(%.60q) = %v, %d", s, got, errno)
		}
	}
	for _, w := range bads() {
		s := textOf(w.v)
		if got, errno := view.Parse(s); errno != api.ErrForm && textOf(got) != s {
			t.Errorf("%s: Parse(%q) = %v, %d", w.why, s, got, errno)
		}
	}
}

var (
	shape = regexp.MustCompile(`^(0|[1-9][0-9]{0,18})(( (0|[1-9][0-9]?)\.[1-9][0-9]{0,9}/(0|[1-9][0-9]?)\*?)+)$`)
	piece = regexp.MustCompile(` ([0-9]+)\.([0-9]+)/([0-9]+)(\*?)`)
)

// viewOf answers the view whose text s is, as a second reading of the chapter finds it: by a text's shape, and the leaves asked one by one.
func viewOf(s string) (v api.View, is bool) {
	parts := shape.FindStringSubmatch(s)
	if parts == nil {
		return api.View{}, false
	}
	v.Id, _ = strconv.ParseUint(parts[1], 10, 64)
	all := piece.FindAllStringSubmatch(parts[2], -1)
	for place := range 100 {
		var leaf []api.Pid
		for _, one := range all {
			id, _ := strconv.Atoi(one[1])
			inc, _ := strconv.Atoi(one[2])
			if inc > math.MaxUint32 {
				return api.View{}, false
			}
			p := api.Pid{Id: uint16(id), Inc: uint32(inc)}
			if place == 0 {
				v.Members = append(v.Members, p)
			}
			if place == 0 && one[4] != "" {
				v.Leaders = append(v.Leaders, p)
			}
			if one[3] == strconv.Itoa(place) {
				leaf = append(leaf, p)
			}
		}
		v.Leaves = append(v.Leaves, leaf)
	}
	for n := len(v.Leaves); n > 0 && len(v.Leaves[n-1]) == 0; n-- {
		v.Leaves = v.Leaves[:n-1]
	}
	return v, mayBe(v)
}

// againstText asks whether Parse finds the view that the second reading does, and answers whether there is one.
func againstText(t *testing.T, s string) bool {
	t.Helper()
	want, is := viewOf(s)
	errno := api.OK
	if !is {
		want, errno = api.View{}, api.ErrForm
	}
	if got, e := view.Parse(s); e != errno || !alike(got, want) {
		t.Fatalf("Parse(%q) = %v, %d, not %v, %d", s, got, e, want, errno)
	}
	return is
}

// TestParseOfTextsWithOneSignOfAnother: each sign is another one, is left out, and is put in, at each place.
func TestParseOfTextsWithOneSignOfAnother(t *testing.T) {
	signs := "0123456789 ./*+-_x\n\x00\xff"
	are, arent := 0, 0
	for _, v := range append(allViews(10, list(bob, ann, cal)), example(), five(), single(dan), single(many(12)...)) {
		s := textOf(v)
		for at := range len(s) + 1 {
			for _, sign := range []byte(signs) {
				texts := []string{s[:at] + string([]byte{sign}) + s[at:]}
				if at < len(s) {
					texts = append(texts, s[:at]+string([]byte{sign})+s[at+1:], s[:at]+s[at+1:], s[:at])
				}
				for _, text := range texts {
					if againstText(t, text) {
						are++
					} else {
						arent++
					}
				}
			}
		}
	}
	if are < 1000 || arent < 1000 {
		t.Fatalf("%d are a view's, %d aren't: the test asks too little", are, arent)
	}
}

// TestParseOfRowsOfPieces: texts put together of pieces, in any order.
func TestParseOfRowsOfPieces(t *testing.T) {
	for _, row := range listsOf(4, "1.1/0*", "1.1/0", "2.1/0", "2.1/1", "2.1/1*", "3.2/1", "3.2/2", "0.9/0*", "2.2/1", "16.1/0") {
		againstText(t, strings.Join(append([]string{"6"}, row...), " "))
	}
}

// P8.5

func TestLocal(t *testing.T) {
	v := five()
	for p, leaf := range map[api.Pid][]api.Pid{ann: list(ann, dan), dan: list(ann, dan), bob: list(bob), cal: list(cal, eve), eve: list(cal, eve)} {
		want := api.View{Id: 300, Members: leaf, Leaves: leaves(leaf), Leaders: leaf}
		if got := view.Local(v, p); !alike(got, want) {
			t.Errorf("Local(%v) = %v, not %v", p, got, want)
		}
	}
	for _, p := range list(zoe, none, api.Pid{Id: 1, Inc: 2}, api.Pid{Id: 2, Inc: 1}, api.Pid{Id: 99, Inc: 1}) {
		if got := view.Local(v, p); !isZero(got) {
			t.Errorf("Local of %v, who is no member = %v", p, got)
		}
	}
	for _, v := range goods() {
		for _, p := range v.Members {
			got := view.Local(v, p)
			if !mayBe(got) || view.Check(got) != api.OK || !alike(got, localOf(v, p)) {
				t.Fatalf("Local(%v, %v) = %v", v, p, got)
			}
			// A leaf's own leaf is all of it.
			if again := view.Local(got, p); !alike(again, got) {
				t.Fatalf("Local of %v = %v", got, again)
			}
		}
	}
}

// localOf answers p's local view, found by who stands with whom.
func localOf(v api.View, p api.Pid) api.View {
	var with []api.Pid
	for _, leaf := range v.Leaves {
		if mayBe(v) && times(p, leaf) > 0 {
			with = leaf
		}
	}
	if len(with) == 0 {
		return api.View{}
	}
	return api.View{Id: v.Id, Members: with, Leaves: leaves(with), Leaders: with}
}

func TestLocalOfViewsThatMayNotBe(t *testing.T) {
	all := turnedAbout(2000)
	for _, w := range bads() {
		all = append(all, w.v)
	}
	for _, v := range all {
		if mayBe(v) {
			continue
		}
		for _, p := range asked(v)[:min(60, len(asked(v)))] {
			if got := view.Local(v, p); !isZero(got) {
				t.Fatalf("Local(%v, %v) = %v", v, p, got)
			}
		}
	}
}

func TestLocalIsNewMemory(t *testing.T) {
	v := five()
	got, other := view.Local(v, ann), view.Local(v, ann)
	checkApart(t, "Local", got, other, v)
	v = five()
	got = view.Local(v, ann)
	_, _ = append(got.Members, zoe), append(got.Leaders, zoe)
	spoil(v)
	if want := localOf(five(), ann); !alike(got, want) {
		t.Fatalf("Local shares memory with the view: %v", got)
	}
}

// leafOf answers a view of that Id in which a stands in a leaf with those.
func leafOf(id uint64, with ...api.Pid) api.View {
	v := single(append(list(ann), with...)...)
	v.Id = id
	return v
}

func TestRow(t *testing.T) {
	other := five()
	other.Id = 301
	out, bad := single(bob, cal), leafOf(5, bob, bob)
	apart := api.View{Id: 6, Members: list(ann, zoe, bob), Leaves: leaves(list(ann, bob), list(zoe)), Leaders: list(zoe)}
	local := func(id uint64, l ...api.Pid) api.View {
		return api.View{Id: id, Members: l, Leaves: leaves(l), Leaders: l}
	}
	for _, one := range []struct {
		why  string
		l    []api.View
		want []api.View
	}{
		{"nothing", nil, nil},
		{"one", []api.View{five()}, []api.View{local(300, ann, dan)}},
		{"the same twice", []api.View{five(), five()}, []api.View{local(300, ann, dan)}},
		{"the same leaf of two Ids", []api.View{five(), other}, []api.View{local(300, ann, dan)}},
		{"the same leaf, the later one ahead", []api.View{other, five()}, []api.View{local(301, ann, dan)}},
		{"another leaf of the same Id", []api.View{leafOf(4), leafOf(4, bob)}, []api.View{local(4, ann), local(4, ann, bob)}},
		{"one more each", []api.View{leafOf(1), leafOf(2, bob), leafOf(3, bob, cal)}, []api.View{local(1, ann), local(2, ann, bob), local(3, ann, bob, cal)}},
		{"one fewer each", []api.View{leafOf(1, bob, cal), leafOf(2, bob), leafOf(3)}, []api.View{local(1, ann, bob, cal), local(2, ann, bob), local(3, ann)}},
		{"there and back", []api.View{leafOf(1), leafOf(2, bob), leafOf(3)}, []api.View{local(1, ann), local(2, ann, bob), local(3, ann)}},
		{"others change", []api.View{leafOf(1, bob), apart, leafOf(9, bob), leafOf(10, cal)}, []api.View{local(1, ann, bob), local(10, ann, cal)}},
		{"three the same", []api.View{leafOf(1, bob), leafOf(2, bob), leafOf(3, bob), leafOf(4, cal), leafOf(5, cal)}, []api.View{local(1, ann, bob), local(4, ann, cal)}},
		{"a new incarnation", []api.View{leafOf(1, bob), leafOf(2, api.Pid{Id: 2, Inc: 8})}, []api.View{local(1, ann, bob), local(2, ann, api.Pid{Id: 2, Inc: 8})}},
		{"in none", []api.View{out, {}, bad}, nil},
		{"in none first", []api.View{out, bad, leafOf(2, bob)}, []api.View{local(2, ann, bob)}},
		{"in none between", []api.View{leafOf(1, bob), out, leafOf(2, bob), {}, bad, leafOf(3, bob), bad, leafOf(4, cal)}, []api.View{local(1, ann, bob), local(4, ann, cal)}},
		{"in none last", []api.View{leafOf(1, bob), out, bad}, []api.View{local(1, ann, bob)}},
	} {
		if got := view.Row(one.l, ann); !slices.EqualFunc(got, one.want, alike) {
			t.Errorf("%s: Row(%v) = %v, not %v", one.why, one.l, got, one.want)
		}
	}
	if got := view.Row([]api.View{five(), leafOf(2, bob)}, zoe); len(got) != 0 {
		t.Errorf("Row of somebody who is in none = %v", got)
	}
	// The members are a list: the same ones in another order are other ones.
	eldest, youngest := leafOf(1, bob), single(bob, ann)
	if got := view.Row([]api.View{eldest, youngest, eldest}, ann); len(got) != 3 {
		t.Errorf("Row of two orders = %v", got)
	}
}

// TestRowOfAnyViews: along rows of views, against the locals found one by one, told from behind.
func TestRowOfAnyViews(t *testing.T) {
	source := rand.New(rand.NewSource(5))
	some := append(allViews(4, list(ann, bob)), allViews(9, list(bob, ann, cal))...)
	some = append(some, api.View{}, leafOf(5, bob, bob), single(bob), leafOf(0))
	for range 5000 {
		var l []api.View
		for range source.Intn(12) {
			l = append(l, some[source.Intn(len(some))])
		}
		for _, p := range list(ann, bob, cal, zoe) {
			var locals []api.View
			for _, v := range l {
				if local := localOf(v, p); local.Id != 0 {
					locals = append(locals, local)
				}
			}
			for at := len(locals) - 1; at > 0; at-- {
				if slices.Equal(locals[at].Members, locals[at-1].Members) {
					locals = slices.Delete(locals, at, at+1)
				}
			}
			if got := view.Row(l, p); !slices.EqualFunc(got, locals, alike) {
				t.Fatalf("Row(%v, %v) = %v, not %v", l, p, got, locals)
			}
		}
	}
}

func TestRowIsNewMemory(t *testing.T) {
	l := []api.View{five(), leafOf(301, bob, cal), five(), leafOf(302, bob)}
	row := view.Row(l, ann)
	if len(row) != 4 {
		t.Fatalf("Row = %v", row)
	}
	checkApart(t, "Row", slices.Concat(row, l, view.Row([]api.View{five()}, ann))...)
	l = []api.View{five(), leafOf(301, bob, cal)}
	row = view.Row(l, ann)
	spoil(l[0])
	l[1] = api.View{}
	if !slices.EqualFunc(row, []api.View{localOf(five(), ann), localOf(leafOf(301, bob, cal), ann)}, alike) {
		t.Fatalf("Row shares memory with the views: %v", row)
	}
}

// Rules

// roomy answers a view whose lists have room behind, in which somebody stands.
func roomy(v api.View) api.View {
	room := func(l []api.Pid) []api.Pid {
		return append(slices.Clone(l), ann, bob, cal, dan, eve, zoe)[:len(l)]
	}
	w := api.View{Id: v.Id, Members: room(v.Members), Leaders: room(v.Leaders)}
	for _, leaf := range v.Leaves {
		w.Leaves = append(w.Leaves, room(leaf))
	}
	w.Leaves = append(w.Leaves, room(nil), room(list(ann)))[:len(v.Leaves)]
	return w
}

// whole answers all that a view's lists and the room behind them hold.
func whole(v api.View) [][]api.Pid {
	l := [][]api.Pid{slices.Clone(v.Members[:cap(v.Members)]), slices.Clone(v.Leaders[:cap(v.Leaders)])}
	for _, leaf := range v.Leaves[:cap(v.Leaves)] {
		l = append(l, slices.Clone(leaf[:cap(leaf)]))
	}
	return l
}

// allTold answers what all calls tell of a view and some processes.
func allTold(v api.View, l []api.Pid) []any {
	w := &body.Writer{}
	view.Put(w, v)
	text, errno := view.Print(v)
	all := []any{view.Check(v), view.Mask(v, l...), view.Quorum(v, l...), w.Done(), text, errno, view.Same(v, five()), view.Same(five(), v), textOf(view.Copy(v))}
	for _, p := range append(list(zoe, none), l...) {
		all = append(all, view.Rank(v, p), view.Leaf(v, p), view.Has(v, p), view.Leads(v, p), textOf(view.Local(v, p)), len(view.Row([]api.View{v, five(), v}, p)))
	}
	return all
}

// TestNothingHandedIsChangedAndNoRoomIsRead: whatever is asked, what was handed in stays, and what is behind a list is none of it.
func TestNothingHandedIsChangedAndNoRoomIsRead(t *testing.T) {
	all := append(goods()[:40], turnedAbout(200)...)
	for _, bad := range bads() {
		all = append(all, bad.v)
	}
	for _, v := range append(all, unlike()...) {
		w := roomy(v)
		before := whole(w)
		l := append(list(ann, cal, zoe), dan, eve)[:3]
		want, got := allTold(v, slices.Clone(l)), allTold(w, l)
		if !reflect.DeepEqual(got, want) {
			t.Fatalf("with room behind, of %v is told %v, not %v", v, got, want)
		}
		if !reflect.DeepEqual(whole(w), before) || !slices.Equal(l[:5], list(ann, cal, zoe, dan, eve)) {
			t.Fatalf("what was handed in is changed: %v", v)
		}
		if again := allTold(w, l); !reflect.DeepEqual(again, want) {
			t.Fatalf("the second time, of %v is told %v, not %v", v, again, want)
		}
	}
	l := append(list(), ann, bob)[:1]
	row := append([]api.View{leafOf(1), leafOf(2, bob)}, leafOf(3, cal))[:2]
	if got := view.Row(row, l[0]); len(got) != 2 || !alike(row[:3][2], leafOf(3, cal)) || !alike(row[0], leafOf(1)) || !alike(row[1], leafOf(2, bob)) {
		t.Fatalf("Row = %v, and the views %v", got, row[:3])
	}
}

// TestGreatAndStrangeOnes: no call panics, and each ends, whatever it is given.
func TestGreatAndStrangeOnes(t *testing.T) {
	crowd := make([]api.Pid, 1<<18)
	for at := range crowd {
		crowd[at] = api.Pid{Id: uint16(at), Inc: uint32(at)}
	}
	empty := make([][]api.Pid, 1<<18)
	ones := slices.Repeat(leaves(list(ann)), 1<<18)
	for _, v := range []api.View{
		{}, {Id: math.MaxUint64, Members: crowd, Leaves: leaves(crowd), Leaders: crowd},
		{Id: 1, Members: list(ann), Leaves: empty, Leaders: list(ann)}, {Id: 1, Members: list(ann), Leaves: ones, Leaders: list(ann)},
		{Id: 1, Members: list(ann), Leaves: leaves(crowd), Leaders: list(ann)}, {Id: 1, Members: list(ann), Leaves: leaves(list(ann)), Leaders: crowd},
		{Id: 1, Members: list(ann), Leaves: leaves(list(ann)), Leaders: slices.Repeat(list(ann), 1<<18)},
	} {
		if got := view.Check(v); got != api.ErrArg {
			t.Fatalf("Check = %d", got)
		}
		for _, p := range list(ann, none, api.Pid{Id: math.MaxUint16, Inc: math.MaxUint32}) {
			view.Rank(v, p)
			view.Leaf(v, p)
			view.Has(v, p)
			view.Leads(v, p)
			if got := view.Local(v, p); !isZero(got) {
				t.Fatalf("Local = %v", got)
			}
		}
		view.Mask(v, crowd...)
		view.Quorum(v, crowd...)
		if got := laid(v); len(got) != 0 {
			t.Fatalf("Put lays %d bytes", len(got))
		}
		if got := view.Copy(v); !view.Same(got, v) {
			t.Fatal("Copy is another one")
		}
		if s, errno := view.Print(v); s != "" || errno != api.ErrArg {
			t.Fatalf("Print = %q, %d", s, errno)
		}
	}
	if got := view.Row(make([]api.View, 1<<16), ann); len(got) != 0 {
		t.Fatalf("Row of zero views = %v", got)
	}
	if got := view.Mask(five(), crowd...); got != (api.Mask{1}) {
		t.Fatalf("Mask of a crowd = %v", got)
	}
}

package list

import (
	"fmt"
	"math"
	mathbits "math/bits"
	"math/rand"
	"slices"
	"testing"

	"scrinium/api"
	"scrinium/arena"
)

// far are numbers that are no handle, and no place of a list, up to the ends of int.
func far() []int {
	return []int{-1, -2, -64, api.MaxNodes + 1, 1 << 20, math.MaxInt32, math.MinInt32, math.MaxInt, math.MaxInt - 1, math.MinInt, math.MinInt + 1}
}

// wrong are items that may not be put in.
func wrong() []Item {
	return []Item{{-1, 0}, {0, -1}, {-1, -1}, {math.MinInt, 5}, {5, math.MinInt}, {math.MinInt, math.MaxInt}, {math.MaxInt, math.MinInt + 1}}
}

func tell(t *testing.T, what string, got, want any) {
	t.Helper()
	if g, w := fmt.Sprint(got), fmt.Sprint(want); g != w {
		t.Errorf("%s: %s, not %s", what, g, w)
	}
}

// some are n items, the greatest numbers among them, and some that are there twice.
func some(n int) []Item {
	l := make([]Item, n)
	for i := range l {
		l[i] = Item{A: i, B: i * i * 7 % 1000}
		switch i % 9 {
		case 3:
			l[i] = Item{A: math.MaxInt, B: i}
		case 5:
			l[i] = Item{B: math.MaxInt}
		case 7:
			l[i] = Item{}
		}
	}
	return l
}

func put(t *testing.T, a *arena.Arena, n api.Node) int {
	t.Helper()
	h, e := a.Make(n)
	if e != api.OK {
		t.Fatalf("Make(%v): %d", n, e)
	}
	return h
}

func single(t *testing.T, a *arena.Arena, x Item) int {
	t.Helper()
	return put(t, a, api.Node{Tag: api.TagItem, A: uint64(x.A), B: uint64(x.B)})
}

// over makes a join of two that somebody has, by the chapter's words; it has their counts then.
func over(t *testing.T, a *arena.Arena, first, others, n int) int {
	t.Helper()
	h := put(t, a, api.Node{Tag: api.TagJoin, Kids: [4]int{first, others}, A: uint64(n)})
	a.Drop(first)
	a.Drop(others)
	return h
}

// byHand makes a list by the chapter's words; part tells how many of n are in the first part of a join.
func byHand(t *testing.T, a *arena.Arena, part func(n int) int, l ...Item) int {
	t.Helper()
	switch n := len(l); n {
	case 0:
		return 0
	case 1:
		return single(t, a, l[0])
	default:
		k := part(n)
		first := byHand(t, a, part, l[:k]...)
		return over(t, a, first, byHand(t, a, part, l[k:]...), n)
	}
}

// shapes are the joins that a list by hand may have, the even ones among them, up to those that are just even yet.
func shapes(r *rand.Rand) map[string]func(n int) int {
	return map[string]func(n int) int{
		"halves":       func(n int) int { return n / 2 },
		"steep first":  func(n int) int { return n * steep / (steep + 1) },
		"steep others": func(n int) int { return (n + steep) / (steep + 1) },
		"drawn":        func(n int) int { return drawnPart(r, n) },
	}
}

func drawnPart(r *rand.Rand, n int) int {
	least := (n + steep) / (steep + 1)
	return least + r.Intn(n-2*least+1)
}

// grown is an arena with a list that was put in one by one, each at the end, and nothing else.
func grown(t *testing.T, size int, l ...Item) (*arena.Arena, int) {
	t.Helper()
	a, h := arena.New(size), 0
	for i, x := range l {
		g, e := Insert(a, h, i, x)
		if e != api.OK {
			t.Fatalf("Insert at %d: %d", i, e)
		}
		a.Drop(h)
		a.Work(api.MaxNodes)
		h = g
	}
	return a, h
}

// fresh is an arena with a list by hand, and nothing else.
func fresh(t *testing.T, size int, l ...Item) (*arena.Arena, int) {
	t.Helper()
	a := arena.New(size)
	return a, byHand(t, a, func(n int) int { return n / 2 }, l...)
}

func with(l []Item, i int, x Item) []Item { return slices.Insert(slices.Clone(l), i, x) }

func without(l []Item, i int) []Item { return slices.Delete(slices.Clone(l), i, i+1) }

func instead(l []Item, i int, x Item) []Item { return with(without(l, i), i, x) }

// alike holds all that a list tells of itself against one.
func alike(t *testing.T, what string, a *arena.Arena, h int, l []Item) {
	t.Helper()
	if got := All(a, h); !slices.Equal(got, l) || Len(a, h) != len(l) {
		t.Fatalf("%s: %d: %v, not %d: %v", what, Len(a, h), got, len(l), l)
	}
	for i, x := range l {
		if got, is := Get(a, h, i); got != x || !is {
			t.Fatalf("%s: Get(%d) of %d: %v %v, not %v", what, i, len(l), got, is, x)
		}
	}
	for _, i := range append(far(), len(l), len(l)+1) {
		if got, is := Get(a, h, i); got != (Item{}) || is {
			t.Fatalf("%s: Get(%d) of %d: %v %v", what, i, len(l), got, is)
		}
	}
}

// sound holds the nodes of a list against the chapter's words.
func sound(t *testing.T, a *arena.Arena, h int) int {
	t.Helper()
	n, is := a.Get(h)
	if !is || a.Count(h) < 1 {
		t.Fatalf("%d is not live", h)
	}
	size, want := 1, api.Node{Tag: api.TagItem, A: n.A, B: n.B}
	if n.Tag != api.TagItem {
		size = sound(t, a, n.Kids[0]) + sound(t, a, n.Kids[1])
		want = api.Node{Tag: api.TagJoin, Kids: [4]int{n.Kids[0], n.Kids[1]}, A: uint64(size)}
	}
	if n != want {
		t.Fatalf("a node %v, not %v", n, want)
	}
	return size
}

// counted holds each node's count against the nodes that it is below, and those that somebody has.
func counted(t *testing.T, a *arena.Arena, had ...int) {
	t.Helper()
	want := make([]int, a.Size()+1)
	for _, h := range had {
		want[h]++
	}
	for h := 1; h <= a.Size(); h++ {
		n, _ := a.Get(h)
		for _, kid := range n.Kids {
			want[kid]++
		}
	}
	for h := 1; h <= a.Size(); h++ {
		if a.Count(h) != want[h] {
			t.Fatalf("the count of %d: %d, not %d", h, a.Count(h), want[h])
		}
	}
}

func deep(a *arena.Arena, h int) int {
	n, is := a.Get(h)
	if !is {
		return 0
	}
	return 1 + max(deep(a, n.Kids[0]), deep(a, n.Kids[1]))
}

// mostMade is how many nodes a change may make, by the chapter.
func mostMade(ahead, behind int) int { return 4 + 4*mathbits.Len(uint(max(ahead, behind))) }

// within holds a list of n against the chapter's numbers.
func within(t *testing.T, a *arena.Arena, h, n int) {
	t.Helper()
	if nodes := len(a.Reach(h)); nodes > 2*n {
		t.Fatalf("%d nodes of %d items", nodes, n)
	}
	if d := deep(a, h); d > 4+2*mathbits.Len(uint(n)) {
		t.Fatalf("%d items are %d deep", n, d)
	}
}

// evenly tells whether no join of a list has a part that is too long beside the other.
func evenly(a *arena.Arena, h int) bool {
	n, _ := a.Get(h)
	if n.Tag != api.TagJoin {
		return true
	}
	x, y := Len(a, n.Kids[0]), Len(a, n.Kids[1])
	return x <= steep*y && y <= steep*x && evenly(a, n.Kids[0]) && evenly(a, n.Kids[1])
}

func TestP1001TheExample(t *testing.T) {
	a := arena.New(5)
	h, e := Insert(a, 0, 0, Item{3, 4})
	x, is := Get(a, h, 0)
	tell(t, "Insert(0, 0, {3, 4}), Get(0)", []any{e, x.A, x.B, is}, []any{api.OK, 3, 4, true})
}

func TestP1001TheEmptyList(t *testing.T) {
	a := arena.New(5)
	alike(t, "of 0", a, 0, nil)
	g, e := Delete(a, 0, 0)
	f, o := Set(a, 0, 0, Item{1, 1})
	tell(t, "Delete, Set", []any{g, e, f, o}, []any{0, api.ErrRange, 0, api.ErrRange})
	tell(t, "what was made", a.Made(), 0)
}

func TestP1001AsOfAListOfEachLength(t *testing.T) {
	r := rand.New(rand.NewSource(10))
	for what, part := range shapes(r) {
		for n := range 100 {
			a := arena.New(300)
			alike(t, what, a, byHand(t, a, part, some(n)...), some(n))
		}
	}
	for _, n := range []int{500, 1024, 2999, 3000} {
		a, h := fresh(t, api.MaxNodes, some(n)...)
		alike(t, "many", a, h, some(n))
	}
}

func TestP1001TheGreatestNumbers(t *testing.T) {
	a := arena.New(20)
	l := []Item{{math.MaxInt, math.MaxInt}, {0, math.MaxInt}, {math.MaxInt, 0}, {math.MaxInt - 1, 1}, {}}
	h := 0
	for i, x := range l {
		g, e := Insert(a, h, i, x)
		tell(t, "Insert", e, api.OK)
		h = g
	}
	alike(t, "great ones", a, h, l)
	for i, x := range l {
		g, e := Set(a, h, 0, x)
		tell(t, fmt.Sprint("Set ", i), e, api.OK)
		alike(t, "another one first", a, g, instead(l, 0, x))
		a.Drop(g)
		a.Work(20)
	}
}

func TestP1001AnItemIsOneNode(t *testing.T) {
	a := arena.New(3)
	h, e := Insert(a, 0, 0, Item{5, math.MaxInt})
	n, _ := a.Get(h)
	tell(t, "the node", []any{e, n}, []any{api.OK, api.Node{Tag: api.TagItem, A: 5, B: math.MaxInt}})
	g, e := Insert(a, h, 1, Item{7, 8})
	n, _ = a.Get(g)
	tell(t, "the node of two", []any{e, n}, []any{api.OK, api.Node{Tag: api.TagJoin, Kids: [4]int{h, 2}, A: 2}})
	tell(t, "what is used", a.Used(), 3)
}

// change is one of the three, at a place.
type change struct {
	what string
	do   func(a *arena.Arena, h, i int) (int, api.Errno)
	l    func(l []Item, i int) []Item
	last int // from the end on, the last place at which it may be
}

func changes() []change {
	x := Item{12345, 6789}
	return []change{
		{"Insert", func(a *arena.Arena, h, i int) (int, api.Errno) { return Insert(a, h, i, x) }, func(l []Item, i int) []Item { return with(l, i, x) }, 0},
		{"Delete", Delete, without, 1},
		{"Set", func(a *arena.Arena, h, i int) (int, api.Errno) { return Set(a, h, i, x) }, func(l []Item, i int) []Item { return instead(l, i, x) }, 1},
	}
}

// TestP1001EachChangeAtEachPlace: another list, counted once more; the one that it is of stays, with all it has; what it
// makes, how many nodes it has, and how deep it is.
func TestP1001EachChangeAtEachPlace(t *testing.T) {
	r := rand.New(rand.NewSource(1001))
	for what, part := range shapes(r) {
		for _, n := range []int{0, 1, 2, 3, 4, 5, 6, 7, 8, 15, 16, 17, 40, 86} {
			l := some(n)
			a := arena.New(300)
			h := byHand(t, a, part, l...)
			nodes := a.Used()
			for _, c := range changes() {
				for i := range n + 1 - c.last {
					made := a.Made()
					g, e := c.do(a, h, i)
					what := fmt.Sprintf("%s: %s at %d of %d", what, c.what, i, n)
					want := c.l(l, i)
					if e != api.OK || g == h && n > 0 || (g == 0) != (len(want) == 0) {
						t.Fatalf("%s: %d %d", what, g, e)
					}
					if made = a.Made() - made; made > mostMade(n, len(want)) {
						t.Fatalf("%s: %d nodes are made", what, made)
					}
					alike(t, what, a, g, want)
					alike(t, what+": as it was", a, h, l)
					had := slices.DeleteFunc([]int{h, g}, func(h int) bool { return h == 0 })
					counted(t, a, had...)
					if g != 0 {
						sound(t, a, g)
					}
					within(t, a, g, len(want))
					if !evenly(a, g) {
						t.Fatalf("%s: it is not even", what)
					}
					a.Drop(g)
					a.Work(1000)
					if a.Used() != nodes {
						t.Fatalf("%s: %d are used, not %d", what, a.Used(), nodes)
					}
				}
			}
		}
	}
}

func TestP1001DeleteOfTheLastOne(t *testing.T) {
	a, h := fresh(t, 1, Item{3, 4})
	g, e := Delete(a, h, 0)
	tell(t, "Delete, what was made, what is counted", []any{g, e, a.Made(), a.Count(h)}, []any{0, api.OK, 1, 1})
	alike(t, "as it was", a, h, []Item{{3, 4}})
}

func TestP1001TheOtherOneIsToldAsItIs(t *testing.T) {
	a, h := fresh(t, 20, some(2)...)
	n, _ := a.Get(h)
	made := a.Made()
	g, e := Delete(a, h, 0)
	tell(t, "the other one, counted once more", []any{g, e, a.Count(g), a.Made()}, []any{n.Kids[1], api.OK, 2, made})
	f, e := Set(a, h, 0, Item{9, 9})
	m, _ := a.Get(f)
	tell(t, "the other one is below both", []any{e, m.Kids[1], a.Count(g)}, []any{api.OK, g, 3})
}

func TestP1001SetOfTheSame(t *testing.T) {
	a, h := fresh(t, 20, some(5)...)
	g, e := Set(a, h, 3, some(5)[3])
	tell(t, "Set", []any{e, g != h, a.Count(g), a.Count(h)}, []any{api.OK, true, 1, 1})
	alike(t, "the same", a, g, some(5))
	f, e := Set(a, g, 1, Item{8, 8})
	tell(t, "Set", e, api.OK)
	alike(t, "another one", a, f, instead(some(5), 1, Item{8, 8}))
	alike(t, "as it was", a, g, some(5))
	counted(t, a, h, g, f)
}

func TestP1001ErrArg(t *testing.T) {
	for _, n := range []int{0, 1, 2, 30} {
		a, h := fresh(t, 100, some(n)...)
		made, used := a.Made(), a.Used()
		for _, x := range wrong() {
			for _, i := range append(far(), 0, n/2, n-1, n, n+1) {
				g, e := Insert(a, h, i, x)
				f, o := Set(a, h, i, x)
				tell(t, fmt.Sprintf("Insert, Set of %v at %d of %d", x, i, n), []any{g, e, f, o}, []any{0, api.ErrArg, 0, api.ErrArg})
			}
		}
		tell(t, "made, used", []int{a.Made(), a.Used()}, []int{made, used})
		alike(t, "as it was", a, h, some(n))
	}
}

func TestP1001ErrRange(t *testing.T) {
	for _, n := range []int{0, 1, 2, 3, 30} {
		a, h := fresh(t, 100, some(n)...)
		made, used := a.Made(), a.Used()
		for _, c := range changes() {
			for _, i := range append(far(), n+1-c.last, n+1, n+2, 2*n+1) {
				g, e := c.do(a, h, i)
				tell(t, fmt.Sprintf("%s at %d of %d", c.what, i, n), []any{g, e}, []any{0, api.ErrRange})
			}
		}
		tell(t, "made, used", []int{a.Made(), a.Used()}, []int{made, used})
		alike(t, "as it was", a, h, some(n))
	}
}

func TestP1001TheOrderOfErrors(t *testing.T) {
	a, h := fresh(t, 3, some(2)...)
	tell(t, "what is used", a.Used(), 3)
	for _, i := range append(far(), 3) {
		for _, x := range wrong() {
			_, e := Insert(a, h, i, x)
			_, f := Set(a, h, i, x)
			tell(t, fmt.Sprint("ErrArg is ahead, at ", i), []any{e, f}, []any{api.ErrArg, api.ErrArg})
		}
		for _, c := range changes() {
			_, e := c.do(a, h, i)
			tell(t, fmt.Sprint(c.what, ": ErrRange is ahead, at ", i), e, api.ErrRange)
		}
	}
	for _, i := range []int{0, 1} {
		_, e := Insert(a, h, i, Item{-1, 0})
		_, f := Set(a, h, i, Item{0, -1})
		tell(t, "ErrArg is ahead of ErrFull", []any{e, f}, []any{api.ErrArg, api.ErrArg})
		_, e = Insert(a, h, i, Item{})
		_, f = Set(a, h, i, Item{})
		_, g := Delete(a, h, i)
		tell(t, "where there is a place", []any{e, f, g}, []any{api.ErrFull, api.ErrFull, api.OK})
		a.Drop([]int{2, 1}[i])
	}
	_, e := Set(a, h, 2, Item{})
	_, f := Delete(a, h, 2)
	tell(t, "at the end", []any{e, f}, []any{api.ErrRange, api.ErrRange})
	counted(t, a, h)
}

func TestP1001ErrFullLeavesNothing(t *testing.T) {
	for _, n := range []int{1, 2, 3, 8, 33} {
		l := some(n)
		for extra := range 20 {
			a, h := fresh(t, 2*n-1+extra, l...)
			used := a.Used()
			for _, c := range changes() {
				for i := range n + 1 - c.last {
					g, e := c.do(a, h, i)
					if e != api.OK && e != api.ErrFull || e != api.OK && g != 0 {
						t.Fatalf("%s at %d: %d %d", c.what, i, g, e)
					}
					a.Drop(g)
					a.Work(1000)
					tell(t, c.what+": what is used", a.Used(), used)
					alike(t, c.what, a, h, l)
					counted(t, a, h)
				}
			}
		}
	}
}

// TestP1001ErrFullIsToldOnlyWhereThereIsNoRoom: what the other one has, and the one that it is of has not, is what needs room.
func TestP1001ErrFullIsToldOnlyWhereThereIsNoRoom(t *testing.T) {
	for _, n := range []int{1, 2, 3, 4, 8, 20, 100} {
		for _, c := range changes() {
			for _, i := range []int{0, n / 3, n - 1} {
				roomy, h := fresh(t, 1000, some(n)...)
				used := roomy.Used()
				g, e := c.do(roomy, h, i)
				if need := roomy.Used() - used; e != api.OK || len(roomy.Reach(h, g)) != used+need {
					t.Fatalf("%s at %d of %d: %d, %d nodes are used more", c.what, i, n, e, need)
				}
				need := roomy.Used() - used
				for room := range need + 2 {
					a, h := fresh(t, used+room, some(n)...)
					if _, e := c.do(a, h, i); (e == api.OK) != (room >= need) {
						t.Errorf("%s at %d of %d: room %d of %d: %d", c.what, i, n, room, need, e)
					}
				}
			}
		}
	}
}

func TestP1001WhatWaitsIsNoRoom(t *testing.T) {
	a, h := fresh(t, 3, Item{1, 1})
	a.Drop(single(t, a, Item{2, 2}))
	_, e := Insert(a, h, 0, Item{3, 3})
	tell(t, "Insert, what waits", []any{e, a.Pending()}, []any{api.ErrFull, 1})
	a.Work(1)
	g, e := Insert(a, h, 0, Item{3, 3})
	tell(t, "Insert behind Work", []any{e, All(a, g)}, []any{api.OK, []Item{{3, 3}, {1, 1}}})
}

func TestP1001WorkIsNotCalled(t *testing.T) {
	a, h := fresh(t, 200, some(30)...)
	a.Drop(byHand(t, a, func(n int) int { return n / 2 }, some(9)...))
	waits := a.Pending()
	for _, c := range changes() {
		for _, i := range []int{0, 15, 29} {
			g, e := c.do(a, h, i)
			a.Drop(g)
			if waits++; e != api.OK || a.Pending() != waits {
				t.Fatalf("%s: %d, %d wait, not %d", c.what, e, a.Pending(), waits)
			}
		}
	}
}

// none tells what each call makes of a handle that is none.
func none(t *testing.T, what string, a *arena.Arena, h int) {
	t.Helper()
	alike(t, what, a, h, nil)
	for _, c := range changes() {
		for _, i := range append(far(), 0, 1, 2) {
			if i == 0 && c.last == 0 {
				continue
			}
			g, e := c.do(a, h, i)
			tell(t, fmt.Sprintf("%s: %s at %d", what, c.what, i), []any{g, e}, []any{0, api.ErrRange})
		}
	}
	g, e := Insert(a, h, 0, Item{6, 7})
	n, _ := a.Get(g)
	tell(t, what+": Insert at 0", []any{e, n}, []any{api.OK, api.Node{Tag: api.TagItem, A: 6, B: 7}})
	a.Drop(g)
	a.Work(1)
}

func TestP1001AHandleThatIsNone(t *testing.T) {
	a := arena.New(40)
	for _, h := range append(far(), 0, 1, 7, 40, 41) {
		none(t, fmt.Sprint("of ", h), a, h)
	}
	freed := single(t, a, Item{1, 2})
	a.Drop(freed)
	a.Work(1)
	none(t, "of one that is free", a, freed)
	waiting := byHand(t, a, func(n int) int { return 1 }, some(2)...)
	kids, _ := a.Get(waiting)
	a.Drop(waiting)
	alike(t, "of one that waits", a, waiting, nil)
	for _, c := range changes() {
		_, e := c.do(a, waiting, 1)
		tell(t, c.what+" of one that waits", e, api.ErrRange)
	}
	alike(t, "what is below it yet", a, kids.Kids[0], some(1))
}

func TestP1001ANodeThatIsNoList(t *testing.T) {
	a := arena.New(60)
	half := func(n int) int { return n / 2 }
	x, y := byHand(t, a, half, some(5)...), byHand(t, a, half, some(1)...)
	other := put(t, a, api.Node{Tag: api.TagLeaf, A: 1, B: 1})
	huge := put(t, a, api.Node{Tag: api.TagJoin, Kids: [4]int{x, y}, A: math.MaxUint64 - 3})
	long := put(t, a, api.Node{Tag: api.TagItem, A: 1 << 63})
	for _, n := range []api.Node{
		{Tag: api.TagLeaf, A: 1, B: 1}, {Tag: api.TagFork, A: 1, B: 1}, {Tag: api.TagWave, A: 1}, {Tag: api.TagRoot, A: 1, B: 1},
		{Tag: api.TagFork, Kids: [4]int{x, y}, A: 6}, {Tag: api.TagWave, Kids: [4]int{x, y}, A: 6}, {Tag: api.TagRoot, Kids: [4]int{x, y}, A: 6},
		{Tag: api.TagItem, A: 1 << 63}, {Tag: api.TagItem, B: 1 << 63}, {Tag: api.TagItem, A: math.MaxUint64, B: 3}, {Tag: api.TagItem, A: 3, B: math.MaxUint64},
		{Tag: api.TagItem, Kids: [4]int{y}, A: 1}, {Tag: api.TagItem, Kids: [4]int{0, y}, A: 1}, {Tag: api.TagItem, Kids: [4]int{0, 0, y}}, {Tag: api.TagItem, Kids: [4]int{0, 0, 0, y}},
		{Tag: api.TagJoin}, {Tag: api.TagJoin, A: 1}, {Tag: api.TagJoin, A: 2}, {Tag: api.TagJoin, Kids: [4]int{x}, A: 5}, {Tag: api.TagJoin, Kids: [4]int{0, x}, A: 5}, {Tag: api.TagJoin, Kids: [4]int{y}, A: 1},
		{Tag: api.TagJoin, Kids: [4]int{x, y}}, {Tag: api.TagJoin, Kids: [4]int{x, y}, A: 1}, {Tag: api.TagJoin, Kids: [4]int{x, y}, A: 5}, {Tag: api.TagJoin, Kids: [4]int{x, y}, A: 7},
		{Tag: api.TagJoin, Kids: [4]int{x, y}, A: 6 + 1<<63}, {Tag: api.TagJoin, Kids: [4]int{x, y}, A: math.MaxUint64}, {Tag: api.TagJoin, Kids: [4]int{x, y}, A: 6, B: 1},
		{Tag: api.TagJoin, Kids: [4]int{x, y, y}, A: 6}, {Tag: api.TagJoin, Kids: [4]int{x, y, y}, A: 7}, {Tag: api.TagJoin, Kids: [4]int{x, y, 0, y}, A: 6}, {Tag: api.TagJoin, Kids: [4]int{x, 0, y}, A: 6},
		{Tag: api.TagJoin, Kids: [4]int{x, other}, A: 6}, {Tag: api.TagJoin, Kids: [4]int{x, other}, A: 5}, {Tag: api.TagJoin, Kids: [4]int{other, x}, A: 6}, {Tag: api.TagJoin, Kids: [4]int{other, other}, A: 2},
		{Tag: api.TagJoin, Kids: [4]int{x, huge}, A: 1}, {Tag: api.TagJoin, Kids: [4]int{x, huge}, A: 5}, {Tag: api.TagJoin, Kids: [4]int{x, long}, A: 6},
	} {
		h := put(t, a, n)
		none(t, fmt.Sprint("of ", n), a, h)
		a.Drop(h)
		a.Work(1)
	}
	alike(t, "one that is right", a, over(t, a, x, y, 6), append(some(5), some(1)...))
}

func TestP1001NoArena(t *testing.T) {
	for what, a := range map[string]*arena.Arena{"nil": nil, "zero": {}} {
		for _, h := range append(far(), 0, 1) {
			alike(t, what, a, h, nil)
			g, e := Insert(a, h, 0, Item{3, 4})
			tell(t, what+": Insert at 0", []any{g, e}, []any{0, api.ErrFull})
			for _, c := range changes() {
				g, e := c.do(a, h, 1)
				tell(t, what+": "+c.what+" at 1", []any{g, e}, []any{0, api.ErrRange})
			}
			for _, x := range wrong() {
				for _, i := range []int{-1, 0, 1} {
					g, e := Insert(a, h, i, x)
					f, o := Set(a, h, i, x)
					tell(t, what+": of a wrong item", []any{g, e, f, o}, []any{0, api.ErrArg, 0, api.ErrArg})
				}
			}
			g, e = Delete(a, h, 0)
			f, o := Set(a, h, 0, Item{3, 4})
			tell(t, what+": Delete, Set at 0", []any{g, e, f, o}, []any{0, api.ErrRange, 0, api.ErrRange})
		}
	}
}

func TestP1001AnAnswerIsNew(t *testing.T) {
	a, h := fresh(t, 100, some(20)...)
	clear(All(a, h))
	alike(t, "as it was", a, h, some(20))
}

// drawn draws a change, and gives up the list that it changed; both ends are drawn often.
func drawn(t *testing.T, r *rand.Rand, a *arena.Arena, h int, l []Item) (int, []Item) {
	t.Helper()
	i := r.Intn(len(l) + 1)
	switch r.Intn(8) {
	case 0:
		i = 0
	case 1:
		i = len(l)
	}
	x := Item{A: r.Int(), B: r.Intn(50)}
	g, e := 0, api.OK
	switch k := r.Intn(5); {
	case k < 2 && i < len(l):
		g, e = Delete(a, h, i)
		l = without(l, i)
	case k == 2 && i < len(l):
		g, e = Set(a, h, i, x)
		l = instead(l, i, x)
	default:
		g, e = Insert(a, h, i, x)
		l = with(l, i, x)
	}
	if e != api.OK {
		t.Fatal(e)
	}
	a.Drop(h)
	a.Work(10000)
	return g, l
}

// TestP1001ListsThatSomebodyElseMade: uneven ones too are lists, and are changed as such.
func TestP1001ListsThatSomebodyElseMade(t *testing.T) {
	r := rand.New(rand.NewSource(1002))
	for what, part := range map[string]func(n int) int{
		"chain":         func(n int) int { return 1 },
		"chain of ends": func(n int) int { return n - 1 },
		"any":           func(n int) int { return 1 + r.Intn(n-1) },
	} {
		for range 30 {
			a := arena.New(400)
			l := some(1 + r.Intn(60))
			h := byHand(t, a, part, l...)
			alike(t, what, a, h, l)
			for range 40 {
				h, l = drawn(t, r, a, h, l)
				alike(t, what+", changed", a, h, l)
				counted(t, a, slices.DeleteFunc([]int{h}, func(h int) bool { return h == 0 })...)
			}
		}
	}
}

func TestP1001OneThatIsBelowTwice(t *testing.T) {
	a, x := fresh(t, 100, some(5)...)
	a.Keep(x)
	h := over(t, a, x, x, 10)
	l := append(some(5), some(5)...)
	alike(t, "twice", a, h, l)
	for _, c := range changes() {
		g, e := c.do(a, h, 2)
		tell(t, c.what, e, api.OK)
		alike(t, c.what+" of one of the two", a, g, c.l(l, 2))
		alike(t, "as it was", a, h, l)
	}
}

func TestP1001VeryManyItems(t *testing.T) {
	a, h := fresh(t, 1000, Item{1, 2}, Item{3, 4})
	double := func(n int) {
		for range n {
			a.Keep(h)
			h = over(t, a, h, h, 2*Len(a, h))
		}
	}
	double(40)
	x, is := Get(a, h, 2<<40-1)
	tell(t, "Len, Get", []any{Len(a, h), x, is}, []any{2 << 40, Item{3, 4}, true})
	g, e := Insert(a, h, 1, Item{5, 6})
	x, _ = Get(a, g, 1)
	tell(t, "Insert, Len, Get", []any{e, Len(a, g), x}, []any{api.OK, 2<<40 + 1, Item{5, 6}})
	for range 30 { // up to more than a number can say, and beyond: it ends, whatever is told
		double(1)
		for _, i := range append(far(), 0, 1<<40) {
			Get(a, h, i)
			for _, c := range changes() {
				g, _ := c.do(a, h, i)
				a.Drop(g)
				a.Work(100)
			}
		}
	}
}

// ends asks everything of what is no list; that each call ends, and leaves nothing behind, is all.
func ends(t *testing.T, a *arena.Arena, h, n int) {
	t.Helper()
	used, l := a.Used(), All(a, h)
	for i := -2; i < n+2; i++ {
		Get(a, h, i)
		for _, c := range changes() {
			g, _ := c.do(a, h, i)
			a.Drop(g)
			a.Work(1000)
		}
	}
	tell(t, "used, all", []any{a.Used(), All(a, h)}, []any{used, l})
}

// TestP1001WhatIsNoListFurtherDown: whatever somebody made, each call ends.
func TestP1001WhatIsNoListFurtherDown(t *testing.T) {
	a := arena.New(100)
	x := byHand(t, a, func(n int) int { return n / 2 }, some(7)...)
	lie := put(t, a, api.Node{Tag: api.TagJoin, Kids: [4]int{x, x}, A: 40})
	for _, kids := range [][4]int{{lie, x}, {x, lie}, {lie, lie}} {
		n := api.Node{Tag: api.TagJoin, Kids: kids, A: 47}
		if kids[0] == kids[1] {
			n.A = 80
		}
		h := put(t, a, n)
		ends(t, a, h, int(n.A))
		ends(t, a, put(t, a, api.Node{Tag: api.TagJoin, Kids: [4]int{h, x}, A: n.A + 7}), int(n.A)+7)
		ends(t, a, put(t, a, api.Node{Tag: api.TagJoin, Kids: [4]int{x, h}, A: n.A + 7}), int(n.A)+7)
	}
}

func TestP1001ARing(t *testing.T) {
	a := arena.New(60)
	x := byHand(t, a, func(n int) int { return n / 2 }, some(3)...)
	first := put(t, a, api.Node{Tag: api.TagItem, A: 1})
	ring := put(t, a, api.Node{Tag: api.TagJoin, Kids: [4]int{first, x}, A: 4})
	a.Drop(first)
	a.Drop(first) // too often: its place is made anew
	a.Work(1)
	put(t, a, api.Node{Tag: api.TagJoin, Kids: [4]int{ring, ring}, A: 8})
	ends(t, a, ring, 8)
	ends(t, a, first, 8)
}

func TestP1001EachStaysAsItIs(t *testing.T) {
	r := rand.New(rand.NewSource(1003))
	a := arena.New(api.MaxNodes)
	had, lists := []int{0}, [][]Item{nil}
	for range 800 {
		k := r.Intn(len(had))
		h, l := had[k], lists[k]
		a.Keep(h)
		h, l = drawn(t, r, a, h, l)
		if k = r.Intn(60); k < len(had) && k > 0 {
			a.Drop(had[k])
			had[k], lists[k] = h, l
		} else {
			had, lists = append(had, h), append(lists, l)
		}
		a.Work(10000)
	}
	for k, h := range had {
		alike(t, "kept", a, h, lists[k])
		within(t, a, h, len(lists[k]))
	}
	counted(t, a, slices.DeleteFunc(slices.Clone(had), func(h int) bool { return h == 0 })...)
	tell(t, "what is used", a.Used(), len(a.Reach(had...)))
	for _, h := range had {
		a.Drop(h)
	}
	a.Work(10000)
	tell(t, "what is left", a.Used(), 0)
}

// changed plays one change, and holds what it made, and what there is then, against the chapter's numbers.
func changed(t *testing.T, a *arena.Arena, h, n, i, kind int) (int, int) {
	t.Helper()
	c := changes()[kind]
	behind := []int{n + 1, n - 1, n}[kind]
	made := a.Made()
	g, e := c.do(a, h, i)
	if made = a.Made() - made; e != api.OK || made > mostMade(n, behind) {
		t.Fatalf("%s at %d of %d: %d: %d nodes are made, not %d at most", c.what, i, n, e, made, mostMade(n, behind))
	}
	a.Drop(h)
	a.Work(10000)
	return g, behind
}

// look holds a list of n, which is all there is, against the chapter's numbers.
func look(t *testing.T, what string, a *arena.Arena, h, n int) {
	t.Helper()
	within(t, a, h, n)
	if !evenly(a, h) || a.Used() != len(a.Reach(h)) || a.Used() != max(2*n-1, 0) || Len(a, h) != n {
		t.Fatalf("%s: %d items: %d nodes are used, %d are reached", what, n, a.Used(), len(a.Reach(h)))
	}
}

// places are ways to say where the k-th change of a list of n is.
func places(r *rand.Rand) map[string]func(k, n int) int {
	return map[string]func(k, n int) int{
		"first":     func(k, n int) int { return 0 },
		"last":      func(k, n int) int { return n },
		"middle":    func(k, n int) int { return n / 2 },
		"third":     func(k, n int) int { return n / 3 },
		"both ends": func(k, n int) int { return k % 2 * n },
		"drawn":     func(k, n int) int { return r.Intn(n + 1) },
		"near":      func(k, n int) int { return max(0, n/4-r.Intn(20)) },
		"strides":   func(k, n int) int { return k * 97 % (n + 1) },
	}
}

func TestP1001WhatAChangeMakesAndHowAListIs(t *testing.T) {
	const most = 350
	for how, place := range places(rand.New(rand.NewSource(1004))) {
		a := arena.New(2*most + 100)
		h, n := 0, 0
		for n < most {
			h, n = changed(t, a, h, n, place(n, n), 0)
			look(t, how, a, h, n)
		}
		for n > 0 {
			h, n = changed(t, a, h, n, min(place(n, n), n-1), 2)
			h, n = changed(t, a, h, n, min(place(n, n), n-1), 1)
			look(t, how, a, h, n)
		}
		tell(t, how+": all gone", []int{h, a.Used()}, []int{0, 0})
	}
}

// TestP1001FromTheSteepestLists: changes at each place of the deepest lists that are even, of many lengths.
func TestP1001FromTheSteepestLists(t *testing.T) {
	for what, part := range shapes(rand.New(rand.NewSource(1005))) {
		for n := 1; n < 1500; n += 1 + n/6 {
			a := arena.New(api.MaxNodes)
			first := byHand(t, a, part, some(n)...)
			if !evenly(a, first) {
				t.Fatalf("%s: %d are not even", what, n)
			}
			for i := 0; i < n; i += 1 + n/9 {
				for kind := range changes() {
					a.Keep(first)
					h, behind := changed(t, a, first, n, i, kind)
					if within(t, a, h, behind); !evenly(a, h) {
						t.Fatalf("%s: %d are not even behind the change %d at %d", what, n, kind, i)
					}
					a.Drop(h)
					a.Work(10000)
				}
			}
		}
	}
}

// TestP1001ToAndFro: changes that go to and fro about one length.
func TestP1001ToAndFro(t *testing.T) {
	r := rand.New(rand.NewSource(1006))
	for _, about := range []int{1, 2, 3, 4, 5, 8, 16, 33, 100, 300} {
		a, h := grown(t, 2000, some(about)...)
		n := about
		for k := range 600 {
			at := r.Intn(n + 1)
			if k%200 < 100 {
				at = min(n, r.Intn(3)*n/2)
			}
			kind := 0
			if at < n && (n > 2*about || r.Intn(2) == 0) {
				kind = 1
			}
			h, n = changed(t, a, h, n, at, kind)
			look(t, "to and fro", a, h, n)
		}
	}
}

func TestP1001AsManyAsThereIsRoomFor(t *testing.T) {
	const most = 2990
	a, h, n := arena.New(api.MaxNodes), 0, 0
	r := rand.New(rand.NewSource(1007))
	for n < most {
		h, n = changed(t, a, h, n, []int{0, n, n / 2, r.Intn(n + 1)}[n/700%4], 0)
	}
	look(t, "many", a, h, n)
	for k := range 2000 {
		h, n = changed(t, a, h, n, []int{0, n - 1, n / 2, r.Intn(n)}[k/300%4], 1)
		h, n = changed(t, a, h, n, []int{n, 0, r.Intn(n), n / 3}[k/200%4], 0)
		h, n = changed(t, a, h, n, r.Intn(n), 2)
	}
	look(t, "many, changed", a, h, n)
}

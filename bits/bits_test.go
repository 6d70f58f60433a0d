package bits

import (
	"fmt"
	"math"
	mathbits "math/bits"
	"math/rand"
	"slices"
	"testing"

	"scrinium/api"
	"scrinium/arena"
)

// far are numbers that are no handle, and no place of a row, up to the ends of int.
func far() []int {
	return []int{-1, -2, -64, -65, api.MaxNodes + 1, 1 << 20, math.MaxInt32, math.MinInt32, math.MaxInt, math.MaxInt - 1, math.MinInt, math.MinInt + 1}
}

func tell(t *testing.T, what string, got, want any) {
	t.Helper()
	if g, w := fmt.Sprint(got), fmt.Sprint(want); g != w {
		t.Errorf("%s: %s, not %s", what, g, w)
	}
}

// some are n bits, in which every place looks different from afar.
func some(n int) []bool {
	l := make([]bool, n)
	for i := range l {
		l[i] = i*i%7 < 3 || i%11 == 4
	}
	return l
}

func fresh(t *testing.T, size int, l ...bool) (*arena.Arena, int) {
	t.Helper()
	a := arena.New(size)
	return a, built(t, a, l...)
}

func built(t *testing.T, a *arena.Arena, l ...bool) int {
	t.Helper()
	h, e := Build(a, l...)
	if e != api.OK {
		t.Fatalf("Build of %d: %d", len(l), e)
	}
	return h
}

func put(t *testing.T, a *arena.Arena, n api.Node) int {
	t.Helper()
	h, e := a.Make(n)
	if e != api.OK {
		t.Fatalf("Make(%v): %d", n, e)
	}
	return h
}

// fork is a fork of two that somebody else made; it has their counts.
func fork(t *testing.T, a *arena.Arena, first, others int) int {
	t.Helper()
	n := Len(a, first) + Len(a, others)
	ones := Rank(a, first, n) + Rank(a, others, n)
	h := put(t, a, api.Node{Tag: api.TagFork, Kids: [4]int{first, others}, A: uint64(n), B: uint64(ones)})
	a.Drop(first)
	a.Drop(others)
	return h
}

func ones(l []bool) int {
	n := 0
	for _, one := range l {
		if one {
			n++
		}
	}
	return n
}

// where tells by plain looking where the k-th is.
func where(l []bool, one bool, k int) int {
	for i, b := range l {
		if b != one {
			continue
		}
		if k == 0 {
			return i
		}
		k--
	}
	return -1
}

// alike holds all that a row tells of itself against a list.
func alike(t *testing.T, what string, a *arena.Arena, h int, l []bool) {
	t.Helper()
	if got := All(a, h); !slices.Equal(got, l) || Len(a, h) != len(l) {
		t.Fatalf("%s: %d: %v, not %d: %v", what, Len(a, h), got, len(l), l)
	}
	n := len(l)
	for _, i := range append(far(), 0, 1, 63, 64, 65, n/3, n/2, n-2, n-1, n, n+1) {
		one, is := Get(a, h, i)
		in := i >= 0 && i < n
		if is != in || one != (in && l[i]) {
			t.Fatalf("%s: Get(%d) of %d: %v %v", what, i, n, one, is)
		}
		if got, want := Rank(a, h, i), ones(l[:min(max(i, 0), n)]); got != want {
			t.Fatalf("%s: Rank(%d) of %d: %d, not %d", what, i, n, got, want)
		}
		for _, one := range []bool{false, true} {
			if got, want := Select(a, h, one, i), where(l, one, i); got != want {
				t.Fatalf("%s: Select(%v, %d) of %d: %d, not %d", what, one, i, n, got, want)
			}
		}
	}
}

// sound holds the nodes of a row against the chapter's words.
func sound(t *testing.T, a *arena.Arena, h int) (size, ones int) {
	t.Helper()
	n, is := a.Get(h)
	if !is || a.Count(h) < 1 {
		t.Fatalf("%d is not live", h)
	}
	want := api.Node{Tag: n.Tag, A: n.A, B: n.B}
	switch n.Tag {
	case api.TagLeaf:
		size, ones = int(n.B), mathbits.OnesCount64(n.A)
		if size < 1 || size > api.Word || size < api.Word && n.A>>size != 0 {
			t.Fatalf("a leaf %v", n)
		}
	case api.TagFork:
		want.Kids = [4]int{n.Kids[0], n.Kids[1]}
		x, p := sound(t, a, n.Kids[0])
		y, q := sound(t, a, n.Kids[1])
		size, ones = x+y, p+q
		want.A, want.B = uint64(size), uint64(ones)
	default:
		t.Fatalf("the tag of %v", n)
	}
	if n != want {
		t.Fatalf("a node %v, not %v", n, want)
	}
	return size, ones
}

// counted holds each node's count against the nodes that it is below, and those that somebody has.
func counted(t *testing.T, a *arena.Arena, had ...int) {
	t.Helper()
	want := make([]int, a.Size()+1)
	for _, h := range had {
		want[h]++
	}
	for h := 1; h <= a.Size(); h++ {
		n, _ := a.Get(h)
		for _, kid := range n.Kids {
			want[kid]++
		}
	}
	for h := 1; h <= a.Size(); h++ {
		if a.Count(h) != want[h] {
			t.Fatalf("the count of %d: %d, not %d", h, a.Count(h), want[h])
		}
	}
}

func deep(a *arena.Arena, h int) int {
	n, is := a.Get(h)
	if !is {
		return 0
	}
	return 1 + max(deep(a, n.Kids[0]), deep(a, n.Kids[1]))
}

// mostMade is how many nodes a change may make, by P802.
func mostMade(ahead, behind int) int { return 4 + 4*mathbits.Len(uint(max(ahead, behind)/16)) }

func within(t *testing.T, a *arena.Arena, h, n int) {
	t.Helper()
	if nodes := len(a.Reach(h)); nodes > 1+n/4 {
		t.Fatalf("%d nodes of %d bits", nodes, n)
	}
	if d := deep(a, h); d > 4+2*mathbits.Len(uint(n)) {
		t.Fatalf("%d bits are %d deep", n, d)
	}
}

func TestP801TheExample(t *testing.T) {
	a := arena.New(5)
	h, e := Insert(a, 0, 0, true)
	tell(t, "Insert(0, 0, true), All", []any{e, All(a, h)}, []any{api.OK, []bool{true}})
}

func TestP801TheEmptyRow(t *testing.T) {
	alike(t, "of 0", arena.New(5), 0, nil)
}

func TestP801AsOfAListOfEachLength(t *testing.T) {
	for n := range 300 {
		a, h := fresh(t, 100, some(n)...)
		alike(t, "built", a, h, some(n))
	}
	for _, n := range []int{640, 1000, 4096, 4097, 20000} {
		a, h := fresh(t, api.MaxNodes, some(n)...)
		alike(t, "built", a, h, some(n))
	}
}

func TestP801EachPlaceOfARow(t *testing.T) {
	l := some(777)
	a, h := fresh(t, 100, l...)
	for i, one := range l {
		if got, is := Get(a, h, i); got != one || !is {
			t.Fatalf("Get(%d): %v %v", i, got, is)
		}
		ahead := ones(l[:i])
		if got := Rank(a, h, i); got != ahead {
			t.Fatalf("Rank(%d): %d, not %d", i, got, ahead)
		}
		k := ahead
		if !one {
			k = i - ahead
		}
		if got := Select(a, h, one, k); got != i {
			t.Fatalf("Select(%v, %d): %d, not %d", one, k, got, i)
		}
	}
}

func TestP801RowsOfOneKindOfBit(t *testing.T) {
	for _, n := range []int{1, 64, 65, 200} {
		for _, one := range []bool{false, true} {
			l := slices.Repeat([]bool{one}, n)
			a, h := fresh(t, 50, l...)
			alike(t, "all alike", a, h, l)
		}
	}
}

func TestP801BuildTellsARowThatIsCountedOnce(t *testing.T) {
	for _, n := range []int{0, 1, 2, 63, 64, 65, 127, 128, 129, 1000} {
		a, h := fresh(t, 100, some(n)...)
		if (h == 0) != (n == 0) {
			t.Fatalf("Build of %d: %d", n, h)
		}
		if h != 0 {
			sound(t, a, h)
			counted(t, a, h)
			tell(t, "what is used", a.Used(), len(a.Reach(h)))
		}
		tell(t, "what waits", a.Pending(), 0)
		a.Drop(h)
		a.Work(1000)
		tell(t, "what is left", a.Used(), 0)
	}
}

func TestP801BuildOfTheSameIsMadeAnew(t *testing.T) {
	a := arena.New(5)
	x, y := built(t, a, true), built(t, a, true)
	tell(t, "two rows", []int{x, y, a.Count(x), a.Count(y)}, []int{1, 2, 1, 1})
}

func TestP801NothingThatIsHandedInIsWrittenOrKept(t *testing.T) {
	l := some(150)
	a, h := fresh(t, 50, l...)
	tell(t, "what was handed in", l, some(150))
	clear(l)
	tell(t, "the row", All(a, h), some(150))
	clear(All(a, h))
	tell(t, "the row", All(a, h), some(150))
}

func TestP801InsertAtEachPlace(t *testing.T) {
	for _, n := range []int{0, 1, 2, 63, 64, 65, 127, 128, 129, 200} {
		l := some(n)
		a, h := fresh(t, 100, l...)
		for i := range n + 1 {
			for _, one := range []bool{false, true} {
				g, e := Insert(a, h, i, one)
				if e != api.OK || g == 0 || g == h || a.Count(g) != 1 {
					t.Fatalf("Insert at %d of %d: %d %d, counted %d", i, n, g, e, a.Count(g))
				}
				alike(t, "with one more", a, g, slices.Insert(slices.Clone(l), i, one))
				alike(t, "as it was", a, h, l)
				sound(t, a, g)
				if h == 0 {
					counted(t, a, g)
				} else {
					counted(t, a, g, h)
				}
				a.Drop(g)
				a.Work(1000)
			}
		}
	}
}

func TestP801DeleteAtEachPlace(t *testing.T) {
	for _, n := range []int{2, 3, 63, 64, 65, 66, 127, 128, 129, 200} {
		l := some(n)
		a, h := fresh(t, 100, l...)
		for i := range n {
			g, e := Delete(a, h, i)
			if e != api.OK || g == 0 || g == h || a.Count(g) != 1 {
				t.Fatalf("Delete at %d of %d: %d %d, counted %d", i, n, g, e, a.Count(g))
			}
			alike(t, "with one less", a, g, slices.Delete(slices.Clone(l), i, i+1))
			alike(t, "as it was", a, h, l)
			sound(t, a, g)
			counted(t, a, g, h)
			a.Drop(g)
			a.Work(1000)
		}
	}
}

func TestP801DeleteOfTheLastOne(t *testing.T) {
	for _, one := range []bool{false, true} {
		a, h := fresh(t, 1, one)
		g, e := Delete(a, h, 0)
		tell(t, "Delete, what was made, what is counted", []any{g, e, a.Made(), a.Count(h)}, []any{0, api.OK, 1, 1})
		alike(t, "as it was", a, h, []bool{one})
	}
}

func TestP801ErrRange(t *testing.T) {
	for _, n := range []int{0, 1, 64, 65, 200} {
		l := some(n)
		a, h := fresh(t, 50, l...)
		made, used := a.Made(), a.Used()
		for _, i := range append(far(), n+1, n+63, n+64, n+65) {
			g, e := Insert(a, h, i, true)
			tell(t, fmt.Sprintf("Insert at %d of %d", i, n), []any{g, e}, []any{0, api.ErrRange})
			g, e = Delete(a, h, i)
			tell(t, fmt.Sprintf("Delete at %d of %d", i, n), []any{g, e}, []any{0, api.ErrRange})
		}
		g, e := Delete(a, h, n)
		tell(t, fmt.Sprintf("Delete at the end of %d", n), []any{g, e}, []any{0, api.ErrRange})
		tell(t, "made, used", []int{a.Made(), a.Used()}, []int{made, used})
		alike(t, "as it was", a, h, l)
	}
}

func TestP801ErrRangeIsAheadOfErrFull(t *testing.T) {
	a, h := fresh(t, 3, some(65)...)
	tell(t, "what is used", a.Used(), 3)
	for _, i := range append(far(), 66) {
		_, e := Insert(a, h, i, true)
		_, f := Delete(a, h, i)
		tell(t, fmt.Sprint("at ", i), []any{e, f}, []any{api.ErrRange, api.ErrRange})
	}
	_, e := Insert(a, h, 65, true)
	_, f := Delete(a, h, 64)
	tell(t, "where there is a place", []any{e, f}, []any{api.ErrFull, api.ErrFull})
}

// full plays one change in an arena that may have no room for it.
func full(t *testing.T, what string, a *arena.Arena, h int, l []bool, change func() (int, api.Errno)) {
	t.Helper()
	used := a.Used()
	g, e := change()
	switch e {
	case api.OK:
		a.Drop(g)
	case api.ErrFull:
		if g != 0 {
			t.Fatalf("%s: %d beside ErrFull", what, g)
		}
	default:
		t.Fatalf("%s: %d", what, e)
	}
	a.Work(10000)
	if a.Used() != used {
		t.Fatalf("%s: %d are used, not %d", what, a.Used(), used)
	}
	alike(t, what, a, h, l)
	counted(t, a, h)
}

func TestP801ErrFullLeavesNothing(t *testing.T) {
	for _, n := range []int{1, 64, 65, 130, 500} {
		l := some(n)
		for extra := range 12 {
			a, h := fresh(t, 1000, l...)
			size := a.Used() + extra
			a, h = fresh(t, size, l...)
			for _, i := range []int{0, n / 3, n / 2, n - 1} {
				full(t, "Insert", a, h, l, func() (int, api.Errno) { return Insert(a, h, i, true) })
				full(t, "Delete", a, h, l, func() (int, api.Errno) { return Delete(a, h, i) })
			}
			full(t, "Build", a, h, l, func() (int, api.Errno) { return Build(a, some(300)...) })
		}
	}
}

func TestP801ErrFullIsToldOnlyWhereThereIsNoRoom(t *testing.T) {
	for _, n := range []int{0, 1, 63, 64, 65, 200, 1000} {
		roomy, h := fresh(t, 1000, some(n)...)
		used := roomy.Used()
		if _, e := Insert(roomy, h, n/2, true); e != api.OK {
			t.Fatal(e)
		}
		need := roomy.Used() - used
		for room := range need + 1 {
			a, h := fresh(t, max(used+room, 1), some(n)...)
			_, e := Insert(a, h, n/2, true)
			if room = a.Size() - used; (e == api.OK) != (room >= need) {
				t.Errorf("room %d of %d for %d bits: %d", room, need, n, e)
			}
		}
	}
	for n := range 200 {
		roomy, _ := fresh(t, 1000, some(n)...)
		need := roomy.Used()
		for size := 1; size <= need; size++ {
			if _, e := Build(arena.New(size), some(n)...); (e == api.OK) != (size >= need) {
				t.Errorf("Build of %d in %d: %d", n, size, e)
			}
		}
	}
}

func TestP801WhatWaitsIsNoRoom(t *testing.T) {
	a, h := fresh(t, 2, true)
	a.Drop(built(t, a, false))
	_, e := Insert(a, h, 0, true)
	tell(t, "Insert, what waits", []any{e, a.Pending()}, []any{api.ErrFull, 1})
	a.Work(1)
	g, e := Insert(a, h, 0, true)
	tell(t, "Insert behind Work", []any{g, e}, []any{2, api.OK})
}

// none tells what each call makes of a handle that is none.
func none(t *testing.T, what string, a *arena.Arena, h int) {
	t.Helper()
	alike(t, what, a, h, nil)
	for _, i := range append(far(), 0, 1, 64) {
		g, e := Delete(a, h, i)
		tell(t, fmt.Sprintf("%s: Delete at %d", what, i), []any{g, e}, []any{0, api.ErrRange})
		if i == 0 {
			continue
		}
		g, e = Insert(a, h, i, true)
		tell(t, fmt.Sprintf("%s: Insert at %d", what, i), []any{g, e}, []any{0, api.ErrRange})
	}
	g, e := Insert(a, h, 0, true)
	n, _ := a.Get(g)
	tell(t, what+": Insert at 0", []any{e, n}, []any{api.OK, api.Node{Tag: api.TagLeaf, A: 1, B: 1}})
	a.Drop(g)
	a.Work(1)
}

func TestP801AHandleThatIsNone(t *testing.T) {
	a := arena.New(40)
	for _, h := range append(far(), 0, 1, 7, 40, 41) {
		none(t, fmt.Sprint("of ", h), a, h)
	}
	freed := built(t, a, true)
	a.Drop(freed)
	a.Work(1)
	none(t, "of one that is free", a, freed)
	waiting := built(t, a, true)
	a.Drop(waiting)
	alike(t, "of one that waits", a, waiting, nil)
	_, e := Insert(a, waiting, 1, true)
	_, f := Delete(a, waiting, 0)
	tell(t, "Insert, Delete of one that waits", []any{e, f}, []any{api.ErrRange, api.ErrRange})
}

func TestP801ANodeThatIsNoRow(t *testing.T) {
	a := arena.New(60)
	x, y := built(t, a, some(64)...), built(t, a, some(30)...)
	alone := uint64(ones(some(64)))
	ones := alone + uint64(ones(some(30)))
	other := put(t, a, api.Node{Tag: api.TagItem, A: 1, B: 1})
	empty := put(t, a, api.Node{Tag: api.TagLeaf})
	huge := put(t, a, api.Node{Tag: api.TagFork, Kids: [4]int{x, y}, A: math.MaxUint64 - 29, B: 3})
	odd := put(t, a, api.Node{Tag: api.TagFork, Kids: [4]int{x, y}, A: 94, B: 95})
	for _, n := range []api.Node{
		{Tag: api.TagWave, A: 1, B: 1}, {Tag: api.TagItem, A: 1, B: 1}, {Tag: api.TagRoot, A: 1, B: 1},
		{Tag: api.TagJoin, Kids: [4]int{x, y}, A: 94, B: ones}, {Tag: api.TagWave, Kids: [4]int{x, y}, A: 94, B: ones},
		{Tag: api.TagLeaf}, {Tag: api.TagLeaf, A: 1}, {Tag: api.TagLeaf, A: 2, B: 1}, {Tag: api.TagLeaf, A: 1 << 63, B: 63},
		{Tag: api.TagLeaf, A: 1, B: 65}, {Tag: api.TagLeaf, A: 1, B: 1<<32 + 1}, {Tag: api.TagLeaf, B: 1 << 63}, {Tag: api.TagLeaf, B: math.MaxUint64},
		{Tag: api.TagLeaf, Kids: [4]int{x}, A: 1, B: 1},
		{Tag: api.TagFork}, {Tag: api.TagFork, A: 5, B: 3}, {Tag: api.TagFork, Kids: [4]int{x}, A: 64, B: alone}, {Tag: api.TagFork, Kids: [4]int{0, x}, A: 64, B: alone},
		{Tag: api.TagFork, Kids: [4]int{x, y}}, {Tag: api.TagFork, Kids: [4]int{x, y}, A: 93, B: ones}, {Tag: api.TagFork, Kids: [4]int{x, y}, A: 95, B: ones},
		{Tag: api.TagFork, Kids: [4]int{x, y}, A: 94, B: ones + 1}, {Tag: api.TagFork, Kids: [4]int{x, y}, A: 94, B: ones - 1}, {Tag: api.TagFork, Kids: [4]int{x, y}, A: 94, B: 95},
		{Tag: api.TagFork, Kids: [4]int{x, y}, A: 94 + 1<<63, B: ones}, {Tag: api.TagFork, Kids: [4]int{x, y}, A: math.MaxUint64, B: ones},
		{Tag: api.TagFork, Kids: [4]int{x, y, y}, A: 94, B: ones}, {Tag: api.TagFork, Kids: [4]int{x, y, 0, y}, A: 94, B: ones},
		{Tag: api.TagFork, Kids: [4]int{x, other}, A: 65, B: alone + 1}, {Tag: api.TagFork, Kids: [4]int{x, other}, A: 64, B: alone},
		{Tag: api.TagFork, Kids: [4]int{x, empty}, A: 64, B: alone}, {Tag: api.TagFork, Kids: [4]int{empty, x}, A: 64, B: alone}, {Tag: api.TagFork, Kids: [4]int{empty, empty}},
		{Tag: api.TagFork, Kids: [4]int{x, huge}, A: 34, B: alone + 3}, {Tag: api.TagFork, Kids: [4]int{x, odd}, A: 158, B: alone + 95},
	} {
		h := put(t, a, n)
		none(t, fmt.Sprint("of ", n), a, h)
		a.Drop(h)
		a.Work(1)
	}
	alike(t, "one that is right", a, fork(t, a, x, y), append(some(64), some(30)...))
}

func TestP801NoArena(t *testing.T) {
	for what, a := range map[string]*arena.Arena{"nil": nil, "zero": {}} {
		for _, h := range append(far(), 0, 1) {
			alike(t, what, a, h, nil)
			g, e := Insert(a, h, 0, true)
			tell(t, what+": Insert at 0", []any{g, e}, []any{0, api.ErrFull})
			g, e = Insert(a, h, 1, true)
			tell(t, what+": Insert at 1", []any{g, e}, []any{0, api.ErrRange})
			g, e = Delete(a, h, 0)
			tell(t, what+": Delete", []any{g, e}, []any{0, api.ErrRange})
		}
		h, e := Build(a)
		tell(t, what+": Build of nothing", []any{h, e}, []any{0, api.OK})
		h, e = Build(a, true)
		tell(t, what+": Build", []any{h, e}, []any{0, api.ErrFull})
	}
}

func TestP801RowsThatSomebodyElseMade(t *testing.T) {
	r := rand.New(rand.NewSource(8))
	for range 60 {
		a := arena.New(api.MaxNodes)
		h, l := 0, []bool(nil)
		for range 1 + r.Intn(30) {
			more := some(1 + r.Intn(9))
			x := built(t, a, more...)
			switch {
			case h == 0:
				h, l = x, more
			case r.Intn(3) == 0:
				h, l = fork(t, a, x, h), append(more, l...)
			default:
				h, l = fork(t, a, h, x), append(l, more...)
			}
		}
		alike(t, "made by hand", a, h, l)
		for range 80 {
			h, l = drawn(t, r, a, h, l)
			alike(t, "changed", a, h, l)
		}
	}
}

func TestP801OneThatIsBelowTwice(t *testing.T) {
	a, x := fresh(t, 100, some(50)...)
	a.Keep(x)
	h := fork(t, a, x, x)
	l := append(some(50), some(50)...)
	alike(t, "twice", a, h, l)
	g, e := Insert(a, h, 20, true)
	tell(t, "Insert", e, api.OK)
	alike(t, "twice, and one", a, g, slices.Insert(slices.Clone(l), 20, true))
	alike(t, "as it was", a, h, l)
}

func TestP801VeryManyBits(t *testing.T) {
	a, h := fresh(t, 1000, some(64)...)
	double := func(n int) {
		for range n {
			a.Keep(h)
			h = put(t, a, api.Node{Tag: api.TagFork, Kids: [4]int{h, h}, A: uint64(2 * Len(a, h)), B: uint64(2 * Rank(a, h, math.MaxInt))})
		}
	}
	double(40)
	tell(t, "Len, Rank, Select", []int{Len(a, h), Rank(a, h, math.MaxInt), Select(a, h, true, 0)}, []int{64 << 40, ones(some(64)) << 40, 0})
	g, e := Insert(a, h, 7, true)
	tell(t, "Insert, Len", []any{e, Len(a, g)}, []any{api.OK, 64<<40 + 1})
	for range 30 { // up to more than a number can say, and beyond: it ends, whatever is told
		double(1)
		for _, i := range append(far(), 0, 1<<40) {
			Get(a, h, i)
			Select(a, h, false, i)
			g, _ := Insert(a, h, i, true)
			a.Drop(g)
			g, _ = Delete(a, h, i)
			a.Drop(g)
			a.Work(100)
		}
	}
}

func TestP801ASiblingIsToldAsItIs(t *testing.T) {
	a := arena.New(20)
	h := fork(t, a, built(t, a, true), built(t, a, some(100)...))
	n, _ := a.Get(h)
	made := a.Made()
	g, e := Delete(a, h, 0)
	tell(t, "the other one, counted once more", []any{g, e, a.Count(g), a.Made()}, []any{n.Kids[1], api.OK, 2, made})
	alike(t, "the other one", a, g, some(100))
}

// TestP801WhatIsNoRowFurtherDown: whatever somebody made, each call ends.
func TestP801WhatIsNoRowFurtherDown(t *testing.T) {
	a := arena.New(60)
	x := built(t, a, some(70)...)
	lie := put(t, a, api.Node{Tag: api.TagFork, Kids: [4]int{x, x}, A: 200, B: 90})
	for _, kids := range [][4]int{{lie, x}, {x, lie}, {lie, lie}} {
		n := api.Node{Tag: api.TagFork, Kids: kids, A: 400, B: 180}
		if kids[0] != kids[1] {
			n.A, n.B = 270, 90+uint64(ones(some(70)))
		}
		ends(t, a, put(t, a, n), int(n.A))
	}
}

func TestP801ARing(t *testing.T) {
	a := arena.New(60)
	x := built(t, a, some(30)...)
	first := put(t, a, api.Node{Tag: api.TagLeaf, A: 1, B: 50})
	ring := put(t, a, api.Node{Tag: api.TagFork, Kids: [4]int{first, x}, A: 80, B: 1 + uint64(ones(some(30)))})
	a.Drop(first)
	a.Drop(first) // too often: its place is made anew
	a.Work(1)
	put(t, a, api.Node{Tag: api.TagFork, Kids: [4]int{ring, ring}, A: 50, B: 1})
	ends(t, a, ring, 80)
	ends(t, a, first, 50)
}

// ends asks everything of what is no row; that each call ends, and changes nothing, is all.
func ends(t *testing.T, a *arena.Arena, h, n int) {
	t.Helper()
	used, l := a.Used(), All(a, h)
	for i := -2; i < n+2; i++ {
		Get(a, h, i)
		Rank(a, h, i)
		Select(a, h, true, i)
		Select(a, h, false, i)
		g, _ := Insert(a, h, i, true)
		a.Drop(g)
		g, _ = Delete(a, h, i)
		a.Drop(g)
		a.Work(1000)
	}
	tell(t, "used, all", []any{a.Used(), All(a, h)}, []any{used, l})
}

// drawn draws a change, and gives up the row that it changed; both ends are drawn often.
func drawn(t *testing.T, r *rand.Rand, a *arena.Arena, h int, l []bool) (int, []bool) {
	t.Helper()
	i := r.Intn(len(l) + 1)
	switch r.Intn(8) {
	case 0:
		i = 0
	case 1:
		i = len(l)
	}
	one := r.Intn(2) == 0
	g, e := 0, api.OK
	if r.Intn(2) == 0 && i < len(l) {
		g, e = Delete(a, h, i)
		l = slices.Delete(slices.Clone(l), i, i+1)
	} else {
		g, e = Insert(a, h, i, one)
		l = slices.Insert(slices.Clone(l), i, one)
	}
	if e != api.OK {
		t.Fatal(e)
	}
	a.Drop(h)
	a.Work(10000)
	return g, l
}

func TestP801EachStaysAsItIs(t *testing.T) {
	r := rand.New(rand.NewSource(81))
	a := arena.New(api.MaxNodes)
	had, lists := []int{0}, [][]bool{nil}
	for range 600 {
		k := r.Intn(len(had))
		h, l := had[k], lists[k]
		a.Keep(h)
		h, l = drawn(t, r, a, h, l)
		if k = r.Intn(40); k < len(had) && k > 0 {
			a.Drop(had[k])
			had[k], lists[k] = h, l
		} else {
			had, lists = append(had, h), append(lists, l)
		}
		a.Work(10000)
	}
	for k, h := range had {
		alike(t, "kept", a, h, lists[k])
	}
	counted(t, a, slices.DeleteFunc(slices.Clone(had), func(h int) bool { return h == 0 })...)
	tell(t, "what is used", a.Used(), len(a.Reach(had...)))
	for _, h := range had {
		a.Drop(h)
	}
	a.Work(10000)
	tell(t, "what is left", a.Used(), 0)
}

// places are ways to say where the k-th change of a row of n is.
func places(r *rand.Rand) map[string]func(k, n int) int {
	return map[string]func(k, n int) int{
		"first":     func(k, n int) int { return 0 },
		"last":      func(k, n int) int { return n },
		"middle":    func(k, n int) int { return n / 2 },
		"third":     func(k, n int) int { return n / 3 },
		"both ends": func(k, n int) int { return k % 2 * n },
		"drawn":     func(k, n int) int { return r.Intn(n + 1) },
		"near":      func(k, n int) int { return max(0, n/4-r.Intn(70)) },
		"strides":   func(k, n int) int { return k * 97 % (n + 1) },
	}
}

// evenly tells whether no fork of a row has a part that is too long beside the other.
func evenly(a *arena.Arena, h int) bool {
	n, _ := a.Get(h)
	if n.Tag != api.TagFork {
		return true
	}
	x, y := Len(a, n.Kids[0]), Len(a, n.Kids[1])
	return x+y > api.Word && x <= steep*y && y <= steep*x && evenly(a, n.Kids[0]) && evenly(a, n.Kids[1])
}

// changed plays one change, and holds what it made against P802.
func changed(t *testing.T, a *arena.Arena, h, n, i int, more bool) int {
	t.Helper()
	made, behind := a.Made(), n+1
	g, e := 0, api.OK
	if more {
		g, e = Insert(a, h, i, i%3 == 0)
	} else {
		behind = n - 1
		g, e = Delete(a, h, i)
	}
	if made = a.Made() - made; e != api.OK || made > mostMade(n, behind) {
		t.Fatalf("%d from %d bits to %d: %d nodes are made, not %d at most", e, n, behind, made, mostMade(n, behind))
	}
	a.Drop(h)
	a.Work(10000)
	return g
}

func TestP802WhatAChangeMakesAndHowARowIs(t *testing.T) {
	const most = 3000
	for how, place := range places(rand.New(rand.NewSource(802))) {
		a := arena.New(1000)
		h := 0
		look := func(n int) {
			t.Helper()
			within(t, a, h, n)
			if !evenly(a, h) || a.Used() != len(a.Reach(h)) {
				t.Fatalf("%s: %d bits: %d nodes are used, %d are reached", how, n, a.Used(), len(a.Reach(h)))
			}
		}
		for n := range most {
			h = changed(t, a, h, n, place(n, n), true)
			look(n + 1)
		}
		for n := most; n > 0; n-- {
			h = changed(t, a, h, n, min(place(n, n), n-1), false)
			look(n - 1)
		}
		tell(t, how+": all gone", []int{h, a.Used()}, []int{0, 0})
	}
}

// TestP802ToAndFro: changes that go to and fro about one length, where rows are parted and put together again.
func TestP802ToAndFro(t *testing.T) {
	r := rand.New(rand.NewSource(8022))
	for _, about := range []int{1, 4, 15, 16, 17, 64, 96, 128, 190, 256, 700} {
		a, h := fresh(t, 1000, some(about)...)
		n := about
		for k := range 2000 {
			at := r.Intn(n + 1)
			if k%500 < 250 {
				at = min(n, r.Intn(3)*n/2)
			}
			more := n == 0 || at < n && n < 2*about && r.Intn(2) == 0 || at == n
			h = changed(t, a, h, n, at, more)
			if n--; more {
				n += 2
			}
			within(t, a, h, n)
			if !evenly(a, h) {
				t.Fatalf("%d bits are not even", n)
			}
		}
	}
}

func TestP802AFewBitsAreFewNodes(t *testing.T) {
	a := arena.New(100)
	h := 0
	for n := range 64 {
		h = changed(t, a, h, n, n/2, true)
		if nodes := len(a.Reach(h)); nodes != 1 {
			t.Fatalf("%d nodes of %d bits", nodes, n+1)
		}
	}
}

func TestP802ManyBits(t *testing.T) {
	const n = 60000
	a, h := fresh(t, api.MaxNodes, some(n)...)
	within(t, a, h, n)
	r := rand.New(rand.NewSource(8023))
	for k := range 3000 {
		at := []int{0, n - 2, n / 2, r.Intn(n - 1)}[k%4]
		h = changed(t, a, h, n, at, true)
		h = changed(t, a, h, n+1, []int{at, 0, n, r.Intn(n)}[k/4%4], false)
	}
	within(t, a, h, n)
	tell(t, "how many", Len(a, h), n)
}

func TestP802WhatBuildMakes(t *testing.T) {
	for n := range 700 {
		a, h := fresh(t, 1000, some(n)...)
		within(t, a, h, n)
		if !evenly(a, h) {
			t.Fatalf("%d bits are not even", n)
		}
		if a.Made() > 4+n || a.Pending() > 0 {
			t.Fatalf("%d nodes are made of %d bits; %d wait", a.Made(), n, a.Pending())
		}
	}
}

// TestP802WhatABuiltRowMakes: a row that was made at once is changed with no more nodes than one that grew.
func TestP802WhatABuiltRowMakes(t *testing.T) {
	for n := 1; n < 400; n++ {
		for _, i := range []int{0, n / 2, n - 1} {
			for _, more := range []bool{false, true} {
				a, h := fresh(t, 1000, some(n)...)
				h = changed(t, a, h, n, i, more)
				behind := n - 1
				if more {
					behind = n + 1
				}
				within(t, a, h, behind)
			}
		}
	}
}

func TestP802WorkIsNotCalled(t *testing.T) {
	a, h := fresh(t, 100, some(130)...)
	a.Drop(built(t, a, some(200)...))
	waits := a.Pending()
	for range 4 {
		g, _ := Insert(a, h, 60, true)
		x, _ := Delete(a, g, 3)
		y := built(t, a, some(66)...)
		tell(t, "told", g != 0 && x != 0 && y != 0, true)
		if a.Pending() < waits {
			t.Fatalf("%d wait, not %d", a.Pending(), waits)
		}
	}
}

func TestP802WhatIsNotNeededIsDropped(t *testing.T) {
	r := rand.New(rand.NewSource(8024))
	a, h := fresh(t, 1000, some(500)...)
	l := some(500)
	for range 1500 {
		h, l = drawn(t, r, a, h, l)
		if a.Used() != len(a.Reach(h)) {
			t.Fatalf("%d are used, %d are reached", a.Used(), len(a.Reach(h)))
		}
		counted(t, a, h)
	}
	alike(t, "in the end", a, h, l)
}

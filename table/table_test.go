package table

import (
	"fmt"
	"math"
	"math/rand"
	"slices"
	"testing"

	"scrinium/api"
	"scrinium/arena"
	"scrinium/list"
)

// doc is a document as a table has it.
type doc struct{ id, length int }

// far are numbers that are no handle, no place of a table, and no document's but where a test says so, up to the ends of int.
func far() []int {
	return []int{-1, -2, -64, api.MaxNodes + 1, 1 << 20, math.MaxInt32, math.MinInt32, math.MaxInt - 1, math.MinInt, math.MinInt + 1}
}

func tell(t *testing.T, what string, got, want any) {
	t.Helper()
	if g, w := fmt.Sprint(got), fmt.Sprint(want); g != w {
		t.Errorf("%s: %s, not %s", what, g, w)
	}
}

// some are n documents, in no order of their numbers, the greatest number and the ends of the lengths among them.
func some(n int) []doc {
	l := []doc{{7, 3}, {2, api.MaxText}, {math.MaxInt, 0}, {1, 1}, {900, 17}, {3, 39}, {88, 0}, {4, 4}, {12, api.MaxText}, {6, 5}}
	return l[:n]
}

func total(l []doc) int {
	n := len(l)
	for _, d := range l {
		n += d.length
	}
	return n
}

func without(l []doc, i int) []doc { return slices.Delete(slices.Clone(l), i, i+1) }

func put(t *testing.T, a *arena.Arena, n api.Node) int {
	t.Helper()
	h, e := a.Make(n)
	if e != api.OK {
		t.Fatalf("Make(%v): %d", n, e)
	}
	return h
}

// byList makes a table by the calls of package list alone.
func byList(t *testing.T, a *arena.Arena, l ...doc) int {
	t.Helper()
	h := 0
	for i, d := range l {
		g, e := list.Insert(a, h, i, list.Item{A: d.id, B: d.length})
		if e != api.OK {
			t.Fatalf("list.Insert at %d: %d", i, e)
		}
		a.Drop(h)
		a.Work(api.MaxNodes)
		h = g
	}
	return h
}

// added makes one by Add, and gives up those on the way.
func added(t *testing.T, a *arena.Arena, l ...doc) int {
	t.Helper()
	h := 0
	for _, d := range l {
		g, e := Add(a, h, d.id, d.length)
		if e != api.OK {
			t.Fatalf("Add(%v): %d", d, e)
		}
		a.Drop(h)
		a.Work(api.MaxNodes)
		h = g
	}
	return h
}

// alike holds all that a table tells of itself against documents.
func alike(t *testing.T, what string, a *arena.Arena, h int, l []doc) {
	t.Helper()
	if Len(a, h) != len(l) || Total(a, h) != total(l) {
		t.Fatalf("%s: Len, Total: %d %d, not %d %d", what, Len(a, h), Total(a, h), len(l), total(l))
	}
	for i, d := range l {
		id, length, is := At(a, h, i)
		if (doc{id, length}) != d || !is {
			t.Fatalf("%s: At(%d): %d %d %v, not %v", what, i, id, length, is, d)
		}
		if at, is := Place(a, h, d.id); at != i || !is {
			t.Fatalf("%s: Place(%d): %d %v, not %d", what, d.id, at, is, i)
		}
	}
	for _, i := range append(far(), math.MaxInt, len(l), len(l)+1) {
		if id, length, is := At(a, h, i); id != 0 || length != 0 || is {
			t.Fatalf("%s: At(%d) of %d: %d %d %v", what, i, len(l), id, length, is)
		}
	}
	for _, id := range append(far(), math.MaxInt, 0, 1, 2, 3, 5, 39, 40, 41) {
		if slices.ContainsFunc(l, func(d doc) bool { return d.id == id }) {
			continue
		}
		if at, is := Place(a, h, id); at != 0 || is {
			t.Fatalf("%s: Place(%d): %d %v", what, id, at, is)
		}
	}
}

// listed holds the list that a table is against documents.
func listed(t *testing.T, what string, a *arena.Arena, h int, l []doc) {
	t.Helper()
	var want []list.Item
	for _, d := range l {
		want = append(want, list.Item{A: d.id, B: d.length})
	}
	if got := list.All(a, h); !slices.Equal(got, want) || list.Len(a, h) != len(l) {
		t.Fatalf("%s: the list %v, not %v", what, got, want)
	}
}

// counted holds each node's count against the nodes that it is below, and those that somebody has.
func counted(t *testing.T, a *arena.Arena, had ...int) {
	t.Helper()
	want := make([]int, a.Size()+1)
	for _, h := range had {
		if h != 0 {
			want[h]++
		}
	}
	for h := 1; h <= a.Size(); h++ {
		n, _ := a.Get(h)
		for _, kid := range n.Kids {
			if kid != 0 {
				want[kid]++
			}
		}
	}
	for h := 1; h <= a.Size(); h++ {
		if a.Count(h) != want[h] {
			t.Fatalf("the count of %d: %d, not %d", h, a.Count(h), want[h])
		}
	}
}

func TestP1101TheExample(t *testing.T) {
	a := arena.New(5)
	h, e := Add(a, 0, 7, 3)
	tell(t, "Add(0, 7, 3), Total", []any{e, Total(a, h)}, []any{api.OK, 4})
}

func TestP1101TheEmptyTable(t *testing.T) {
	a := arena.New(5)
	alike(t, "of 0", a, 0, nil)
	for _, id := range append(far(), 0, 1) {
		h, e := Cut(a, 0, id)
		tell(t, fmt.Sprint("Cut of ", id), []any{h, e}, []any{0, api.ErrNone})
	}
	tell(t, "what was made", a.Made(), 0)
}

func TestP1101ATableIsAList(t *testing.T) {
	for n := range api.MaxDocs + 1 {
		a := arena.New(100)
		h := byList(t, a, some(n)...)
		alike(t, "a list as a table", a, h, some(n))
		g := added(t, a, some(n)...)
		alike(t, "a table", a, g, some(n))
		listed(t, "a table as a list", a, g, some(n))
		counted(t, a, h, g)
	}
}

func TestP1101ADocumentIsOneNode(t *testing.T) {
	a := arena.New(3)
	h, e := Add(a, 0, 5, 40)
	n, _ := a.Get(h)
	tell(t, "the node", []any{e, n}, []any{api.OK, api.Node{Tag: api.TagItem, A: 5, B: 40}})
	g, e := Add(a, h, 3, 0)
	n, _ = a.Get(g)
	tell(t, "the node of two", []any{e, n}, []any{api.OK, api.Node{Tag: api.TagJoin, Kids: [4]int{h, 2}, A: 2}})
	tell(t, "what is used", a.Used(), 3)
}

func TestP1101AddIsAtTheEndAndLeavesWhatWas(t *testing.T) {
	for n := range api.MaxDocs {
		a := arena.New(100)
		h := byList(t, a, some(n)...)
		made := a.Made()
		g, e := Add(a, h, some(n + 1)[n].id, some(n + 1)[n].length)
		tell(t, "Add", []any{e, g != h, g != 0}, []any{api.OK, true, true})
		alike(t, "with one more", a, g, some(n+1))
		alike(t, "as it was", a, h, some(n))
		counted(t, a, h, g)
		b := arena.New(100)
		k := byList(t, b, some(n)...)
		was := b.Made()
		list.Insert(b, k, n, list.Item{A: some(n + 1)[n].id, B: some(n + 1)[n].length})
		tell(t, "what is made, as list's", a.Made()-made, b.Made()-was)
		a.Drop(h)
		a.Work(100)
		alike(t, "with one more, alone", a, g, some(n+1))
	}
}

func TestP1101CutOfEachDocument(t *testing.T) {
	for n := 1; n <= api.MaxDocs; n++ {
		for i, d := range some(n) {
			a := arena.New(100)
			h := byList(t, a, some(n)...)
			used := a.Used()
			g, e := Cut(a, h, d.id)
			tell(t, "Cut", []any{e, g == 0}, []any{api.OK, n == 1})
			alike(t, "without it", a, g, without(some(n), i))
			listed(t, "without it", a, g, without(some(n), i))
			alike(t, "as it was", a, h, some(n))
			counted(t, a, h, g)
			f, e := Cut(a, g, d.id)
			tell(t, "Cut again", []any{f, e}, []any{0, api.ErrNone})
			f, e = Add(a, g, d.id, d.length)
			tell(t, "Add again", e, api.OK)
			alike(t, "at the end now", a, f, append(without(some(n), i), d))
			a.Drop(f)
			a.Drop(g)
			a.Work(100)
			tell(t, "what is used", a.Used(), used)
		}
	}
}

func TestP1101TheEndsOfLengths(t *testing.T) {
	for _, n := range []int{0, 1, api.MaxDocs - 1} {
		a := arena.New(100)
		h := byList(t, a, some(n)...)
		for _, length := range []int{0, 1, api.MaxText - 1, api.MaxText} {
			g, e := Add(a, h, 50, length)
			tell(t, fmt.Sprint("Add of ", length), e, api.OK)
			alike(t, "with it", a, g, append(slices.Clone(some(n)), doc{50, length}))
		}
		made := a.Made()
		for _, length := range append(far(), api.MaxText+1, api.MaxText+2, math.MaxInt) {
			g, e := Add(a, h, 50, length)
			tell(t, fmt.Sprint("Add of ", length), []any{g, e}, []any{0, api.ErrArg})
		}
		tell(t, "made", a.Made(), made)
		alike(t, "as it was", a, h, some(n))
	}
}

func TestP1101NumbersThatMayNotBe(t *testing.T) {
	for n := range api.MaxDocs + 1 {
		a := arena.New(100)
		h := byList(t, a, some(n)...)
		made, used := a.Made(), a.Used()
		for _, id := range []int{0, -1, -7, math.MinInt32, math.MinInt + 1, math.MinInt} {
			g, e := Add(a, h, id, 3)
			f, o := Cut(a, h, id)
			tell(t, fmt.Sprint("Add, Cut of ", id), []any{g, e, f, o}, []any{0, api.ErrArg, 0, api.ErrNone})
		}
		for _, d := range some(n) {
			for _, length := range []int{d.length, 0, 5} {
				g, e := Add(a, h, d.id, length)
				tell(t, fmt.Sprint("Add of ", d.id, ", which is there"), []any{g, e}, []any{0, api.ErrArg})
			}
		}
		for _, id := range []int{5, 40, 41, 1000, math.MaxInt - 1} {
			f, o := Cut(a, h, id)
			tell(t, fmt.Sprint("Cut of ", id, ", which is not there"), []any{f, o}, []any{0, api.ErrNone})
		}
		tell(t, "made, used", []int{a.Made(), a.Used()}, []int{made, used})
		alike(t, "as it was", a, h, some(n))
		counted(t, a, h)
	}
}

func TestP1101TheGreatestNumber(t *testing.T) {
	a := arena.New(20)
	h, e := Add(a, 0, math.MaxInt, api.MaxText)
	tell(t, "Add", e, api.OK)
	g, e := Add(a, h, math.MaxInt-1, 0)
	tell(t, "Add", e, api.OK)
	alike(t, "of two", a, g, []doc{{math.MaxInt, api.MaxText}, {math.MaxInt - 1, 0}})
	f, e := Cut(a, g, math.MaxInt)
	tell(t, "Cut", e, api.OK)
	id, length, is := At(a, f, 0)
	tell(t, "what is left", []any{id, length, is}, []any{math.MaxInt - 1, 0, true})
}

func TestP1101MaxDocsAndOneMore(t *testing.T) {
	a := arena.New(200)
	h := added(t, a, some(api.MaxDocs)...)
	tell(t, "Len, Total", []int{Len(a, h), Total(a, h)}, []int{api.MaxDocs, total(some(api.MaxDocs))})
	made := a.Made()
	for _, id := range []int{5, 11, 500, math.MaxInt - 1} {
		for _, length := range []int{0, 1, api.MaxText} {
			g, e := Add(a, h, id, length)
			tell(t, "one more", []any{g, e}, []any{0, api.ErrMany})
		}
	}
	tell(t, "made", a.Made(), made)
	alike(t, "as it was", a, h, some(api.MaxDocs))
	g, e := Cut(a, h, 900)
	tell(t, "Cut", e, api.OK)
	f, e := Add(a, g, 5, 9)
	tell(t, "Add behind it", e, api.OK)
	alike(t, "as many again", a, f, append(without(some(api.MaxDocs), 4), doc{5, 9}))
	_, e = Add(a, f, 900, 17)
	tell(t, "one more again", e, api.ErrMany)
}

func TestP1101TheOrderOfErrors(t *testing.T) {
	for _, room := range []int{0, 50} {
		full := arena.New(2*api.MaxDocs + 10)
		h := byList(t, full, some(api.MaxDocs)...)
		few := byList(t, full, some(2)...)
		for full.Used() < full.Size()-room {
			put(t, full, api.Node{Tag: api.TagLeaf})
		}
		for _, x := range []doc{{0, 1}, {-5, 0}, {2, 1}, {7, 40}, {5, -1}, {5, 41}, {0, 41}, {2, -1}, {math.MinInt, math.MaxInt}} {
			_, e := Add(full, h, x.id, x.length)
			_, f := Add(full, few, x.id, x.length)
			tell(t, fmt.Sprint("ErrArg is ahead: ", x), []any{e, f}, []any{api.ErrArg, api.ErrArg})
		}
		_, e := Add(full, h, 5, 1)
		tell(t, "ErrMany is ahead", e, api.ErrMany)
		_, e = Cut(full, h, 5)
		_, f := Cut(full, few, 1)
		tell(t, "ErrNone is ahead", []any{e, f}, []any{api.ErrNone, api.ErrNone})
		if room == 0 {
			g, e := Add(full, few, 5, 1)
			f, o := Cut(full, h, 900)
			tell(t, "then ErrFull", []any{g, e, f, o}, []any{0, api.ErrFull, 0, api.ErrFull})
		}
		alike(t, "as it was", full, h, some(api.MaxDocs))
		alike(t, "as it was", full, few, some(2))
	}
}

// TestP1101ErrFull: it is told just where list tells it, and leaves nothing behind.
func TestP1101ErrFull(t *testing.T) {
	for n := range api.MaxDocs {
		d := some(n + 1)[n]
		for extra := range 12 {
			size := max(1, 2*n-1+extra)
			a, b := arena.New(size), arena.New(size)
			h, k := byHand(t, a, some(n)...), byHand(t, b, some(n)...)
			used := a.Used()
			g, e := Add(a, h, d.id, d.length)
			_, want := list.Insert(b, k, n, list.Item{A: d.id, B: d.length})
			tell(t, fmt.Sprintf("Add to %d, %d of room", n, extra), []any{e, g == 0}, []any{want, want != api.OK})
			a.Drop(g)
			a.Work(100)
			for i, x := range some(n) {
				b := arena.New(size)
				k := byHand(t, b, some(n)...)
				g, e := Cut(a, h, x.id)
				f, want := list.Delete(b, k, i)
				tell(t, fmt.Sprintf("Cut of %d of %d, %d of room", i, n, extra), []any{e, g == 0}, []any{want, f == 0})
				a.Drop(g)
				a.Work(100)
				tell(t, "what is used", a.Used(), used)
			}
			alike(t, "as it was", a, h, some(n))
			counted(t, a, h)
		}
	}
}

// byHand makes a table by nodes, and nothing else, so that an arena may be just as great as it.
func byHand(t *testing.T, a *arena.Arena, l ...doc) int {
	t.Helper()
	switch n := len(l); n {
	case 0:
		return 0
	case 1:
		return put(t, a, api.Node{Tag: api.TagItem, A: uint64(l[0].id), B: uint64(l[0].length)})
	default:
		x, y := byHand(t, a, l[:n/2]...), byHand(t, a, l[n/2:]...)
		h := put(t, a, api.Node{Tag: api.TagJoin, Kids: [4]int{x, y}, A: uint64(n)})
		a.Drop(x)
		a.Drop(y)
		return h
	}
}

// none tells what each call makes of a handle that is none: it is as the empty table.
func none(t *testing.T, what string, a *arena.Arena, h int) {
	t.Helper()
	alike(t, what, a, h, nil)
	for _, id := range append(far(), 0, 1, 7) {
		f, e := Cut(a, h, id)
		tell(t, what+": Cut", []any{f, e}, []any{0, api.ErrNone})
	}
	for _, x := range []doc{{0, 3}, {-1, 3}, {7, -1}, {7, 41}} {
		f, e := Add(a, h, x.id, x.length)
		tell(t, what+": Add of what may not be", []any{f, e}, []any{0, api.ErrArg})
	}
	g, e := Add(a, h, 7, 3)
	n, _ := a.Get(g)
	tell(t, what+": Add", []any{e, n}, []any{api.OK, api.Node{Tag: api.TagItem, A: 7, B: 3}})
	a.Drop(g)
	a.Work(1)
}

func TestP1101AHandleThatIsNone(t *testing.T) {
	a := arena.New(40)
	for _, h := range append(far(), 0, 1, 7, 40, 41) {
		none(t, fmt.Sprint("of ", h), a, h)
	}
	freed := byHand(t, a, doc{7, 3})
	a.Drop(freed)
	a.Work(1)
	none(t, "of one that is free", a, freed)
	x := byHand(t, a, some(3)...)
	for _, n := range []api.Node{
		{Tag: api.TagLeaf, A: 7, B: 3}, {Tag: api.TagFork, A: 7, B: 3}, {Tag: api.TagWave, A: 7}, {Tag: api.TagRoot, A: 7, B: 3},
		{Tag: api.TagItem, Kids: [4]int{x}, A: 7, B: 3}, {Tag: api.TagItem, A: 1 << 63}, {Tag: api.TagItem, A: 1, B: 1 << 63},
		{Tag: api.TagJoin}, {Tag: api.TagJoin, A: 1}, {Tag: api.TagJoin, Kids: [4]int{x, x}, A: 5}, {Tag: api.TagJoin, Kids: [4]int{x, x}, A: 6, B: 1},
		{Tag: api.TagJoin, Kids: [4]int{x}, A: 3}, {Tag: api.TagRoot, Kids: [4]int{0, 0, 0, x}},
	} {
		h := put(t, a, n)
		none(t, fmt.Sprint("of ", n), a, h)
		a.Drop(h)
		a.Work(1)
	}
	alike(t, "of one that is right", a, x, some(3))
}

func TestP1101OneThatWaits(t *testing.T) {
	a := arena.New(40)
	h := byHand(t, a, some(4)...)
	a.Drop(h)
	alike(t, "of one that waits", a, h, nil)
	_, e := Cut(a, h, 7)
	g, f := Add(a, h, 7, 3)
	tell(t, "Cut, Add of one that waits", []any{e, f}, []any{api.ErrNone, api.OK})
	a.Work(100)
	alike(t, "what is made of it", a, g, []doc{{7, 3}})
	counted(t, a, g)
}

func TestP1101NoArena(t *testing.T) {
	for what, a := range map[string]*arena.Arena{"nil": nil, "zero": {}} {
		for _, h := range append(far(), 0, 1) {
			alike(t, what, a, h, nil)
			g, e := Add(a, h, 7, 3)
			f, o := Cut(a, h, 7)
			tell(t, what+": Add, Cut", []any{g, e, f, o}, []any{0, api.ErrFull, 0, api.ErrNone})
			for _, x := range []doc{{0, 3}, {-1, 0}, {7, -1}, {7, 41}} {
				g, e := Add(a, h, x.id, x.length)
				tell(t, what+": Add of what may not be", []any{g, e}, []any{0, api.ErrArg})
			}
		}
	}
}

// TestP1101ListsThatNoAddMade: one that is longer than a table gets, one that has a number twice.
func TestP1101ListsThatNoAddMade(t *testing.T) {
	a := arena.New(api.MaxNodes)
	var l []doc
	for i := range 30 {
		l = append(l, doc{i + 1, i})
	}
	h := byHand(t, a, l...)
	alike(t, "a long one", a, h, l)
	_, e := Add(a, h, 31, 1)
	_, f := Add(a, h, 30, 1)
	g, o := Cut(a, h, 30)
	tell(t, "a long one: Add, Add, Cut", []any{e, f, o}, []any{api.ErrMany, api.ErrArg, api.OK})
	alike(t, "a long one, cut", a, g, l[:29])
	twice := byHand(t, a, doc{5, 1}, doc{6, 2}, doc{6, 3})
	at, is := Place(a, twice, 6)
	g, o = Cut(a, twice, 6)
	id, length, has := At(a, g, 1)
	tell(t, "one that is there twice", []any{at, is, Total(a, twice), o, Len(a, g), id, length, has}, []any{1, true, 9, api.OK, 2, 6, 3, true})
}

// TestP1101WhatIsNoListFurtherDown: no document is taken for another one, and each call ends.
func TestP1101WhatIsNoListFurtherDown(t *testing.T) {
	a := arena.New(100)
	x := byHand(t, a, some(3)...)
	lie := put(t, a, api.Node{Tag: api.TagJoin, Kids: [4]int{x, x}, A: 4})
	h := put(t, a, api.Node{Tag: api.TagJoin, Kids: [4]int{lie, x}, A: 7})
	used := a.Used()
	at, is := Place(a, h, 7)
	g, e := Cut(a, h, 7)
	tell(t, "Place, Cut, Total", []any{at, is, g, e, Total(a, h), a.Used()}, []any{0, false, 0, api.ErrNone, 0, used})
	id, length, has := At(a, h, 4)
	tell(t, "At", []any{id, length, has}, []any{7, 3, true})
	f, e := Add(a, h, 5, 5)
	a.Drop(f)
	a.Work(100)
	tell(t, "Add leaves nothing", []any{e, a.Used()}, []any{api.OK, used})
}

func TestP1101VeryManyDocuments(t *testing.T) {
	a := arena.New(1000)
	h := byHand(t, a, some(2)...)
	for range 40 {
		h = put(t, a, api.Node{Tag: api.TagJoin, Kids: [4]int{h, h}, A: uint64(2 * Len(a, h))})
	}
	_, is := Place(a, h, 7)
	_, e := Cut(a, h, 7)
	_, f := Add(a, h, 5, 5)
	id, length, has := At(a, h, 2<<40-1)
	tell(t, "Len, Place, Cut, Add, Total, At", []any{Len(a, h), is, e, f, Total(a, h), id, length, has}, []any{2 << 40, false, api.ErrNone, api.ErrMany, 0, 2, api.MaxText, true})
}

func TestP1101AsManyAsAnArenaHasNodes(t *testing.T) {
	a := arena.New(api.MaxNodes)
	l := make([]doc, api.MaxNodes/2)
	for i := range l {
		l[i] = doc{i + 1, 1}
	}
	half := byHand(t, a, l...)
	h := put(t, a, api.Node{Tag: api.TagJoin, Kids: [4]int{half, half}, A: api.MaxNodes})
	at, is := Place(a, h, api.MaxNodes/2)
	tell(t, "Len, Total, Place", []any{Len(a, h), Total(a, h), at, is}, []any{api.MaxNodes, 2 * api.MaxNodes, api.MaxNodes/2 - 1, true})
}

func TestP1101DrawnChanges(t *testing.T) {
	r := rand.New(rand.NewSource(1101))
	a := arena.New(api.MaxNodes)
	had, tables := []int{0}, [][]doc{nil}
	for range 3000 {
		k := r.Intn(len(had))
		l := slices.Clone(tables[k])
		id, length := r.Intn(16)-1, r.Intn(46)-3
		i := slices.IndexFunc(l, func(d doc) bool { return d.id == id })
		g, e, want := 0, api.OK, api.OK
		if r.Intn(3) > 0 {
			g, e = Add(a, had[k], id, length)
			switch {
			case id < 1 || i >= 0 || length < 0 || length > api.MaxText:
				want = api.ErrArg
			case len(l) == api.MaxDocs:
				want = api.ErrMany
			default:
				l = append(l, doc{id, length})
			}
		} else {
			g, e = Cut(a, had[k], id)
			if i < 0 {
				want = api.ErrNone
			} else {
				l = without(l, i)
			}
		}
		if e != want || e != api.OK && g != 0 {
			t.Fatalf("%d with %d of %v: %d %d, not %d", id, length, tables[k], g, e, want)
		}
		if e != api.OK {
			continue
		}
		if len(had) < 60 {
			had, tables = append(had, g), append(tables, l)
		} else {
			k = 1 + r.Intn(59)
			a.Drop(had[k])
			had[k], tables[k] = g, l
			a.Work(1000)
		}
	}
	for k, h := range had {
		alike(t, "drawn", a, h, tables[k])
	}
	counted(t, a, had...)
	tell(t, "what is used", a.Used(), len(a.Reach(had...)))
}

package wave

import (
	"fmt"
	"math"
	mathbits "math/bits"
	"math/rand"
	"slices"
	"testing"

	"scrinium/api"
	"scrinium/arena"
	"scrinium/bits"
)

// far are numbers that are no handle, no place of a row, and no symbol, up to the ends of int.
func far() []int {
	return []int{-1, -2, -9, -257, api.MaxNodes + 1, 1 << 20, math.MaxInt32, math.MinInt32, math.MaxInt, math.MaxInt - 1, math.MinInt, math.MinInt + 1}
}

// wrong are numbers that are no symbol.
func wrong() []int { return append(far(), 257, 258, 511, 512) }

// edges are symbols at which the bits of the levels turn.
func edges() []int { return []int{0, 1, 2, 3, 127, 128, 129, 254, 255, 256} }

func tell(t *testing.T, what string, got, want any) {
	t.Helper()
	if g, w := fmt.Sprint(got), fmt.Sprint(want); g != w {
		t.Errorf("%s: %s, not %s", what, g, w)
	}
}

// some are n symbols, some of them often, some seldom.
func some(n int) []int {
	l := make([]int, n)
	for i := range l {
		l[i] = i * i * 31 % 257
		if i%3 == 0 {
			l[i] = edges()[i/3%10]
		}
	}
	return l
}

// every is each symbol once, out of order.
func every() []int {
	l := make([]int, api.Symbols)
	for i := range l {
		l[i] = i * 100 % api.Symbols
	}
	return l
}

func put(t *testing.T, a *arena.Arena, n api.Node) int {
	t.Helper()
	h, e := a.Make(n)
	if e != api.OK {
		t.Fatalf("Make(%v): %d", n, e)
	}
	return h
}

func built(t *testing.T, a *arena.Arena, l ...bool) int {
	t.Helper()
	h, e := bits.Build(a, l...)
	if e != api.OK {
		t.Fatalf("Build of %d: %d", len(l), e)
	}
	return h
}

// bitOf is the bit of a symbol at a level: of 256 at level 0, of 128 at level 1, and so on.
func bitOf(s, level int) int { return s >> (8 - level) % 2 }

// byHand makes a row from a level on, as the chapter's words say.
func byHand(t *testing.T, a *arena.Arena, level int, l ...int) int {
	t.Helper()
	if len(l) == 0 || level > 8 {
		return 0
	}
	var here []bool
	var parts [2][]int
	for _, s := range l {
		bit := bitOf(s, level)
		here = append(here, bit == 1)
		parts[bit] = append(parts[bit], s)
	}
	kids := [4]int{built(t, a, here...), byHand(t, a, level+1, parts[0]...), byHand(t, a, level+1, parts[1]...)}
	return over(t, a, kids)
}

// over makes a node of kids, which go over to it.
func over(t *testing.T, a *arena.Arena, kids [4]int) int {
	t.Helper()
	h := put(t, a, api.Node{Tag: api.TagWave, Kids: kids})
	for _, kid := range kids {
		a.Drop(kid)
	}
	return h
}

// grown is an arena with a row that was put in one by one, each at the end, and nothing else.
func grown(t *testing.T, size int, l ...int) (*arena.Arena, int) {
	t.Helper()
	a, h := arena.New(size), 0
	for i, s := range l {
		g, e := Insert(a, h, i, s)
		if e != api.OK {
			t.Fatalf("Insert of %d at %d: %d", s, i, e)
		}
		a.Drop(h)
		a.Work(api.MaxNodes)
		h = g
	}
	return a, h
}

// fresh is an arena with a row by hand, and nothing else.
func fresh(t *testing.T, size int, l ...int) (*arena.Arena, int) {
	t.Helper()
	a := arena.New(size)
	return a, byHand(t, a, 0, l...)
}

func count(l []int, is func(s int) bool) int {
	n := 0
	for _, s := range l {
		if is(s) {
			n++
		}
	}
	return n
}

// where tells by plain looking where the k-th is.
func where(l []int, s, k int) int {
	for i, x := range l {
		if x != s {
			continue
		}
		if k == 0 {
			return i
		}
		k--
	}
	return -1
}

// asked is what is asked of a row about one symbol, held against a list.
func asked(t *testing.T, what string, a *arena.Arena, h int, l []int, s int) {
	t.Helper()
	n := len(l)
	if got, want := Before(a, h, s), count(l, func(x int) bool { return x < s }); got != want {
		t.Fatalf("%s: Before(%d) of %v: %d, not %d", what, s, l, got, want)
	}
	often := count(l, func(x int) bool { return x == s })
	for _, i := range append(far(), 0, 1, 63, 64, 65, n/3, n/2, n-2, n-1, n, n+1, often-1, often, often+1) {
		if got, want := Rank(a, h, s, i), count(l[:min(max(i, 0), n)], func(x int) bool { return x == s }); got != want {
			t.Fatalf("%s: Rank(%d, %d) of %v: %d, not %d", what, s, i, l, got, want)
		}
		if got, want := Select(a, h, s, i), where(l, s, i); got != want {
			t.Fatalf("%s: Select(%d, %d) of %v: %d, not %d", what, s, i, l, got, want)
		}
	}
}

// alike holds all that a row tells of itself against a list.
func alike(t *testing.T, what string, a *arena.Arena, h int, l []int) {
	t.Helper()
	briefly(t, what, a, h, l)
	for _, s := range append(edges(), 77, 200) {
		asked(t, what, a, h, l, s)
	}
}

// briefly is alike without what is asked about symbols.
func briefly(t *testing.T, what string, a *arena.Arena, h int, l []int) {
	t.Helper()
	if got := All(a, h); !slices.Equal(got, l) || Len(a, h) != len(l) {
		t.Fatalf("%s: %d: %v, not %d: %v", what, Len(a, h), got, len(l), l)
	}
	n := len(l)
	for _, i := range append(far(), 0, 1, n/3, n/2, n-2, n-1, n, n+1) {
		s, is := Get(a, h, i)
		in := i >= 0 && i < n
		if is != in || in && s != l[i] || !in && s != 0 {
			t.Fatalf("%s: Get(%d) of %v: %d %v", what, i, l, s, is)
		}
	}
}

// sound holds the nodes of a row against the chapter's words, and tells its symbols, from a level on.
func sound(t *testing.T, a *arena.Arena, h, level, n int) []int {
	t.Helper()
	if n == 0 || level > 8 {
		if h != 0 {
			t.Fatalf("%d at level %d, of %d", h, level, n)
		}
		return make([]int, n)
	}
	x, is := a.Get(h)
	if !is || a.Count(h) < 1 || x != (api.Node{Tag: api.TagWave, Kids: [4]int{x.Kids[0], x.Kids[1], x.Kids[2]}}) {
		t.Fatalf("level %d: %v %v, counted %d", level, x, is, a.Count(h))
	}
	here := bits.All(a, x.Kids[0])
	if len(here) != n {
		t.Fatalf("level %d: %d bits, not %d", level, len(here), n)
	}
	many := bits.Rank(a, x.Kids[0], n)
	parts := [2][]int{sound(t, a, x.Kids[1], level+1, n-many), sound(t, a, x.Kids[2], level+1, many)}
	l := make([]int, n)
	for i, one := range here {
		bit := 0
		if one {
			bit = 1
		}
		l[i] = bit<<(8-level) + parts[bit][0]
		parts[bit] = parts[bit][1:]
	}
	return l
}

// counted holds each node's count against the nodes that it is below, and those that somebody has.
func counted(t *testing.T, a *arena.Arena, had ...int) {
	t.Helper()
	want := make([]int, a.Size()+1)
	for _, h := range had {
		want[h]++
	}
	for h := 1; h <= a.Size(); h++ {
		n, _ := a.Get(h)
		for _, kid := range n.Kids {
			want[kid]++
		}
	}
	for h := 1; h <= a.Size(); h++ {
		if a.Count(h) != want[h] {
			t.Fatalf("the count of %d: %d, not %d", h, a.Count(h), want[h])
		}
	}
}

func with(l []int, i, s int) []int { return slices.Insert(slices.Clone(l), i, s) }

func without(l []int, i int) []int { return slices.Delete(slices.Clone(l), i, i+1) }

func TestP901TheExample(t *testing.T) {
	a := arena.New(100)
	h, e := Insert(a, 0, 0, 98)
	s, is := Get(a, h, 0)
	tell(t, "Insert(0, 0, 98), Get(0)", []any{e, s, is}, []any{api.OK, 98, true})
}

func TestP901TheEmptyRow(t *testing.T) {
	alike(t, "of 0", arena.New(5), 0, nil)
}

func lists() map[string][]int {
	m := map[string][]int{"every": every(), "terminators": make([]int, 70), "greatest": slices.Repeat([]int{256}, 70), "edges": edges()}
	for _, n := range []int{1, 2, 3, 9, 63, 64, 65, 130, 400} {
		m[fmt.Sprint("some ", n)] = some(n)
	}
	for _, s := range edges() {
		m[fmt.Sprint("alone ", s)] = []int{s}
	}
	return m
}

func TestP901AsOfAList(t *testing.T) {
	for what, l := range lists() {
		a, h := grown(t, api.MaxNodes, l...)
		alike(t, what, a, h, l)
		a, h = fresh(t, api.MaxNodes, l...)
		alike(t, what+", by hand", a, h, l)
	}
}

func TestP901EachSymbolAndPlace(t *testing.T) {
	for _, l := range [][]int{every(), some(300)} {
		a, h := grown(t, api.MaxNodes, l...)
		for i, s := range l {
			if got, is := Get(a, h, i); got != s || !is {
				t.Fatalf("Get(%d): %d %v", i, got, is)
			}
			k := count(l[:i], func(x int) bool { return x == s })
			if n, at := Rank(a, h, s, i), Select(a, h, s, k); n != k || at != i {
				t.Fatalf("%d at %d: Rank %d, Select %d", s, i, n, at)
			}
		}
		for s := range api.Symbols {
			asked(t, "of each symbol", a, h, l, s)
		}
	}
}

func TestP901SymbolsThatAreNone(t *testing.T) {
	for _, l := range [][]int{nil, edges(), some(100)} {
		a, h := fresh(t, api.MaxNodes, l...)
		for _, s := range wrong() {
			all := 0
			if s >= api.Symbols {
				all = len(l)
			}
			for _, i := range append(far(), 0, 1, len(l)) {
				tell(t, fmt.Sprintf("Rank, Before, Select of %d, %d", s, i), []int{Rank(a, h, s, i), Before(a, h, s), Select(a, h, s, i)}, []int{0, all, -1})
			}
		}
		tell(t, "Before of 256 and 257", Before(a, h, 257)-Before(a, h, 256), count(l, func(s int) bool { return s == 256 }))
	}
}

// changed holds what a change tells against what is wanted, and gives it back.
func changed(t *testing.T, what string, a *arena.Arena, h int, l []int, g int, e api.Errno, want []int) {
	t.Helper()
	if e != api.OK || g == 0 || g == h || a.Count(g) != 1 {
		t.Fatalf("%s of %v: %d %d, counted %d", what, l, g, e, a.Count(g))
	}
	briefly(t, what, a, g, want)
	asked(t, what, a, g, want, want[len(want)/2])
	if got := sound(t, a, g, 0, len(want)); !slices.Equal(got, want) {
		t.Fatalf("%s of %v: the nodes of %v", what, l, got)
	}
	briefly(t, what+": as it was", a, h, l)
	if got := sound(t, a, h, 0, len(l)); !slices.Equal(got, l) {
		t.Fatalf("%s of %v: it is %v", what, l, got)
	}
	counted(t, a, slices.DeleteFunc([]int{g, h}, func(h int) bool { return h == 0 })...)
	if a.Pending() != 0 {
		t.Fatalf("%s: %d wait", what, a.Pending())
	}
	used := len(a.Reach(h))
	a.Drop(g)
	a.Work(api.MaxNodes)
	if a.Used() != used {
		t.Fatalf("%s: %d are used, not %d", what, a.Used(), used)
	}
}

func TestP901InsertAtEachPlace(t *testing.T) {
	for _, n := range []int{0, 1, 2, 9, 64, 70} {
		l := some(n)
		a, h := fresh(t, 1500, l...)
		for i := range n + 1 {
			for _, s := range []int{0, 98, 256, edges()[i%10], i * 7 % 257} {
				g, e := Insert(a, h, i, s)
				changed(t, fmt.Sprintf("Insert of %d at %d", s, i), a, h, l, g, e, with(l, i, s))
			}
		}
	}
}

func TestP901InsertOfEachSymbol(t *testing.T) {
	for _, l := range [][]int{nil, {98}, edges(), some(80)} {
		a, h := fresh(t, 1500, l...)
		for s := range api.Symbols {
			i := s % (len(l) + 1)
			g, e := Insert(a, h, i, s)
			changed(t, fmt.Sprintf("Insert of %d at %d", s, i), a, h, l, g, e, with(l, i, s))
		}
	}
}

func TestP901DeleteAtEachPlace(t *testing.T) {
	for _, l := range [][]int{{0, 256}, {98, 98}, {98, 97}, edges(), some(3), some(64), some(66), make([]int, 65), every()} {
		a, h := fresh(t, 3000, l...)
		for i := range l {
			g, e := Delete(a, h, i)
			changed(t, fmt.Sprintf("Delete at %d", i), a, h, l, g, e, without(l, i))
		}
	}
}

func TestP901DeleteOfTheLastOne(t *testing.T) {
	for s := range api.Symbols {
		a, h := grown(t, 100, s)
		used, made := a.Used(), a.Made()
		g, e := Delete(a, h, 0)
		tell(t, "Delete, what was made, what is counted", []any{g, e, a.Made(), a.Used(), a.Count(h)}, []any{0, api.OK, made, used, 1})
		alike(t, "as it was", a, h, []int{s})
	}
}

func TestP901ErrArgIsAheadOfErrRangeAndErrFull(t *testing.T) {
	for _, l := range [][]int{nil, edges()} {
		a, h := fresh(t, 200, l...)
		for _, s := range wrong() {
			for _, i := range append(far(), 0, len(l), len(l)+1) {
				g, e := Insert(a, h, i, s)
				tell(t, fmt.Sprintf("Insert of %d at %d", s, i), []any{g, e}, []any{0, api.ErrArg})
				g, e = Insert(nil, h, i, s)
				tell(t, fmt.Sprintf("Insert of %d at %d of no arena", s, i), []any{g, e}, []any{0, api.ErrArg})
			}
		}
		for a.Used() < a.Size() {
			built(t, a, true)
		}
		for _, s := range wrong() {
			_, e := Insert(a, h, 0, s)
			tell(t, fmt.Sprintf("Insert of %d into what is full", s), e, api.ErrArg)
		}
		_, e := Insert(a, h, 0, 256)
		_, f := Insert(a, h, 0, 0)
		tell(t, "of symbols", []any{e, f}, []any{api.ErrFull, api.ErrFull})
	}
}

func TestP901ErrRange(t *testing.T) {
	for _, l := range [][]int{nil, {98}, edges(), some(65)} {
		n := len(l)
		a, h := fresh(t, 1000, l...)
		made, used := a.Made(), a.Used()
		for _, i := range append(far(), n+1, n+2, n+64) {
			for _, s := range edges() {
				g, e := Insert(a, h, i, s)
				tell(t, fmt.Sprintf("Insert of %d at %d of %d", s, i, n), []any{g, e}, []any{0, api.ErrRange})
			}
			g, e := Delete(a, h, i)
			tell(t, fmt.Sprintf("Delete at %d of %d", i, n), []any{g, e}, []any{0, api.ErrRange})
		}
		g, e := Delete(a, h, n)
		tell(t, fmt.Sprintf("Delete at the end of %d", n), []any{g, e}, []any{0, api.ErrRange})
		tell(t, "made, used", []int{a.Made(), a.Used()}, []int{made, used})
		alike(t, "as it was", a, h, l)
	}
}

func TestP901ErrRangeIsAheadOfErrFull(t *testing.T) {
	a, h := grown(t, 200, edges()...)
	for a.Used() < a.Size() {
		built(t, a, true)
	}
	for _, i := range append(far(), 11) {
		_, e := Insert(a, h, i, 98)
		_, f := Delete(a, h, i)
		tell(t, fmt.Sprint("at ", i), []any{e, f}, []any{api.ErrRange, api.ErrRange})
	}
	_, e := Insert(a, h, 10, 98)
	_, f := Delete(a, h, 9)
	tell(t, "where there is a place", []any{e, f}, []any{api.ErrFull, api.ErrFull})
}

// inRoom plays a change in arenas of each size that has a row's nodes: it is told ErrFull just where there is no room for
// what it makes, and leaves nothing then.
func inRoom(t *testing.T, what string, l []int, change func(a *arena.Arena, h int) (int, api.Errno)) {
	t.Helper()
	roomy, h := fresh(t, 3000, l...)
	used := roomy.Used()
	if _, e := change(roomy, h); e != api.OK {
		t.Fatalf("%s: %d", what, e)
	}
	need := roomy.Used() - used
	for room := range need + 2 {
		a, h := fresh(t, max(used+room, 1), l...)
		fits := a.Size()-used >= need
		g, e := change(a, h)
		if fits != (e == api.OK) || !fits && (e != api.ErrFull || g != 0) {
			t.Fatalf("%s: %d of %d nodes are free: %d %d", what, room, need, g, e)
		}
		a.Drop(g)
		a.Work(api.MaxNodes)
		if a.Used() != used {
			t.Fatalf("%s: %d are used, not %d", what, a.Used(), used)
		}
		briefly(t, what, a, h, l)
		counted(t, a, slices.DeleteFunc([]int{h}, func(h int) bool { return h == 0 })...)
	}
}

func TestP901ErrFull(t *testing.T) {
	for _, l := range [][]int{nil, {98}, {98, 97}, edges(), some(66), make([]int, 64), make([]int, 65)} {
		for _, i := range []int{0, len(l) / 2, len(l)} {
			for _, s := range []int{0, 97, 98, 256} {
				inRoom(t, fmt.Sprintf("Insert of %d at %d of %v", s, i, l), l, func(a *arena.Arena, h int) (int, api.Errno) { return Insert(a, h, i, s) })
			}
			if i < len(l) {
				inRoom(t, fmt.Sprintf("Delete at %d of %v", i, l), l, func(a *arena.Arena, h int) (int, api.Errno) { return Delete(a, h, i) })
			}
		}
	}
}

func TestP901WhatWaitsIsNoRoom(t *testing.T) {
	a, h := grown(t, 36, 98)
	tell(t, "what is used", a.Used(), 18)
	a.Drop(built(t, a, true))
	_, e := Insert(a, h, 0, 98)
	waits := a.Pending()
	a.Work(100)
	g, f := Insert(a, h, 0, 98)
	tell(t, "Insert; behind Work", []any{e, waits > 0, f}, []any{api.ErrFull, true, api.OK})
	alike(t, "behind Work", a, g, []int{98, 98})
}

// none tells what each call makes of a handle that is none.
func none(t *testing.T, what string, a *arena.Arena, h int) {
	t.Helper()
	alike(t, what, a, h, nil)
	for _, s := range wrong() {
		tell(t, what+": of what is no symbol", []int{Rank(a, h, s, 1), Before(a, h, s), Select(a, h, s, 0)}, []int{0, 0, -1})
	}
	for _, i := range append(far(), 0, 1, 64) {
		g, e := Delete(a, h, i)
		tell(t, fmt.Sprintf("%s: Delete at %d", what, i), []any{g, e}, []any{0, api.ErrRange})
		if i != 0 {
			g, e = Insert(a, h, i, 98)
			tell(t, fmt.Sprintf("%s: Insert at %d", what, i), []any{g, e}, []any{0, api.ErrRange})
		}
	}
	_, e := Insert(a, h, 0, 257)
	tell(t, what+": Insert of what is no symbol", e, api.ErrArg)
	g, e := Insert(a, h, 0, 98)
	tell(t, what+": Insert at 0", e, api.OK)
	alike(t, what+": Insert at 0", a, g, []int{98})
	a.Drop(g)
	a.Work(api.MaxNodes)
}

func TestP901AHandleThatIsNone(t *testing.T) {
	a := arena.New(200)
	for _, h := range append(far(), 0, 1, 100, 200, 201) {
		none(t, fmt.Sprint("of ", h), a, h)
	}
	freed := byHand(t, a, 0, 98)
	a.Drop(freed)
	a.Work(100)
	none(t, "of one that is free", a, freed)
	waiting := byHand(t, a, 0, 98)
	a.Drop(waiting)
	alike(t, "of one that waits", a, waiting, nil)
	_, e := Insert(a, waiting, 1, 98)
	_, f := Delete(a, waiting, 0)
	tell(t, "Insert, Delete of one that waits", []any{e, f}, []any{api.ErrRange, api.ErrRange})
}

func TestP901ANodeThatIsNoRow(t *testing.T) {
	a := arena.New(1000)
	x := byHand(t, a, 1, 97, 98, 99) // from level 1 on, all below 256
	y := byHand(t, a, 1, 256)
	n, _ := a.Get(byHand(t, a, 0, 97, 256, 98))
	b := n.Kids[0]
	short, fork := built(t, a, true, false), built(t, a, some65()...)
	for _, n := range []api.Node{
		{Tag: api.TagLeaf, A: 1, B: 1}, {Tag: api.TagItem, A: 1, B: 1}, {Tag: api.TagFork, Kids: n.Kids, A: 3, B: 1}, {Tag: api.TagJoin, Kids: n.Kids, A: 3}, {Tag: api.TagRoot, Kids: n.Kids},
		{Tag: api.TagWave}, {Tag: api.TagWave, Kids: [4]int{0, n.Kids[1], n.Kids[2]}}, {Tag: api.TagWave, Kids: [4]int{x, n.Kids[1], n.Kids[2]}},
		{Tag: api.TagWave, Kids: n.Kids, A: 3}, {Tag: api.TagWave, Kids: n.Kids, B: 1}, {Tag: api.TagWave, Kids: n.Kids, A: math.MaxUint64, B: math.MaxUint64},
		{Tag: api.TagWave, Kids: [4]int{b, n.Kids[1], n.Kids[2], b}}, {Tag: api.TagWave, Kids: [4]int{b, n.Kids[1], n.Kids[2], n.Kids[1]}},
		{Tag: api.TagWave, Kids: [4]int{b, n.Kids[1]}}, {Tag: api.TagWave, Kids: [4]int{b, 0, n.Kids[2]}}, {Tag: api.TagWave, Kids: [4]int{b, n.Kids[2], n.Kids[1]}},
		{Tag: api.TagWave, Kids: [4]int{b, x, n.Kids[2]}}, {Tag: api.TagWave, Kids: [4]int{b, y, n.Kids[2]}}, {Tag: api.TagWave, Kids: [4]int{b, n.Kids[1], x}}, {Tag: api.TagWave, Kids: [4]int{b, n.Kids[1], b}},
		{Tag: api.TagWave, Kids: [4]int{short, n.Kids[1], n.Kids[2]}}, {Tag: api.TagWave, Kids: [4]int{fork, n.Kids[1], n.Kids[2]}},
	} {
		none(t, fmt.Sprint("of ", n), a, put(t, a, n))
	}
	one := built(t, a, true)
	none(t, "of one with a kid for none", a, put(t, a, api.Node{Tag: api.TagWave, Kids: [4]int{one, b, y}}))
}

func some65() []bool {
	l := make([]bool, 65)
	for i := range l {
		l[i] = i%2 == 0
	}
	return l
}

// TestP901ARowOfAnotherLevel: what is a row further down is no row of symbols at the top; how many it has it tells as well.
func TestP901ARowOfAnotherLevel(t *testing.T) {
	a, h := fresh(t, 500, some(40)...)
	top := byHand(t, a, 0, 98, 98)
	for level := range 9 {
		n, _ := a.Get(h)
		size := Len(a, n.Kids[0]) + Len(a, n.Kids[1]) + Len(a, n.Kids[2])
		if level < 8 && size != Len(a, h) || level == 8 && n.Kids != [4]int{n.Kids[0]} || Len(a, h) != bits.Len(a, n.Kids[0]) {
			t.Fatalf("level %d: %d, of %v", level, Len(a, h), n)
		}
		if level > 0 {
			ends(t, a, h, 40)
			tell(t, fmt.Sprint("All of level ", level), All(a, h), []int{})
			s, is := Get(a, h, 0)
			g, e := Delete(a, h, 0)
			tell(t, fmt.Sprint("Get, Delete of level ", level), []any{s, is, g, e}, []any{0, false, 0, api.ErrRange})
		}
		if h = n.Kids[1]; h == 0 {
			h = n.Kids[2]
		}
	}
	a.Keep(top)
	higher := over(t, a, [4]int{built(t, a, false, false), top})
	ends(t, a, higher, 3)
	_, is := Get(a, higher, 0)
	tell(t, "Get, All of one level too many", []any{is, All(a, higher)}, []any{false, []int{}})
}

func TestP901SymbolsThatAreTooGreat(t *testing.T) {
	for _, s := range []int{257, 258, 260, 384, 511} {
		a := arena.New(500)
		h := byHand(t, a, 0, 98, s, 256)
		ends(t, a, h, 3)
		_, is := Get(a, h, 1)
		g, e := Insert(a, h, 1, 256)
		tell(t, fmt.Sprint("Get, All, Rank, Insert beside ", s), []any{is, All(a, h), Rank(a, h, 256, 3), g, e}, []any{false, []int{}, 0, 0, api.ErrRange})
	}
}

// ends asks everything of what is no row; that each call ends, and changes nothing, is all.
func ends(t *testing.T, a *arena.Arena, h, n int) {
	t.Helper()
	used, l := a.Used(), All(a, h)
	for i := -2; i < n+2; i++ {
		Get(a, h, i)
		g, _ := Delete(a, h, i)
		a.Drop(g)
		for _, s := range append(wrong(), edges()...) {
			Rank(a, h, s, i)
			Before(a, h, s)
			Select(a, h, s, i)
			g, _ := Insert(a, h, i, s)
			a.Drop(g)
			a.Work(api.MaxNodes)
		}
	}
	a.Work(api.MaxNodes)
	tell(t, "used, all", []any{a.Used(), All(a, h)}, []any{used, l})
}

// TestP901WhatIsNoRowFurtherDown: whatever somebody made, each call ends.
func TestP901WhatIsNoRowFurtherDown(t *testing.T) {
	a := arena.New(500)
	leaf := built(t, a, false, true)
	for depth := range 9 {
		for _, kids := range [][4]int{{leaf, leaf, leaf}, {leaf, 0, leaf}, {leaf}, {leaf, 0, 0, leaf}} {
			h := put(t, a, api.Node{Tag: api.TagWave, Kids: kids})
			for range depth {
				h = over(t, a, [4]int{built(t, a, false, false), h})
			}
			ends(t, a, h, 2)
			a.Drop(h)
			a.Work(api.MaxNodes)
		}
	}
}

// lying are as many bits, all of them 0, by what they say, but only two by what they have.
func lying(t *testing.T, a *arena.Arena, size int) int {
	t.Helper()
	x := built(t, a, false, false)
	lie := put(t, a, api.Node{Tag: api.TagFork, Kids: [4]int{x, x}, A: uint64(size - 2)})
	return put(t, a, api.Node{Tag: api.TagFork, Kids: [4]int{lie, x}, A: uint64(size)})
}

func TestP901FalseBits(t *testing.T) {
	for _, size := range []int{67, 70, 140} {
		for which := range 10 { // at one level, or (9) at none
			a, h := arena.New(500), 0
			for level := 8; level >= 0; level-- {
				b := built(t, a, make([]bool, size)...)
				if level == which {
					b = lying(t, a, size)
				}
				h = over(t, a, [4]int{b, h})
			}
			ends(t, a, h, 3)
			want := make([]int, size)
			if which < 9 {
				want = nil
			}
			tell(t, fmt.Sprint("All, false at level ", which), All(a, h), want)
		}
	}
	for _, size := range []int{67, 1 << 20, 1 << 50} {
		a, h := arena.New(500), 0
		for range 9 {
			h = over(t, a, [4]int{lying(t, a, size), h})
		}
		ends(t, a, h, 3)
		tell(t, "All, false at all levels", All(a, h), []int{})
	}
}

func TestP901ARing(t *testing.T) {
	a := arena.New(200)
	b := built(t, a, false, false)
	first := put(t, a, api.Node{Tag: api.TagWave, Kids: [4]int{b}})
	ring := put(t, a, api.Node{Tag: api.TagWave, Kids: [4]int{b, first}})
	a.Drop(first)
	a.Drop(first) // too often: its place is made anew
	a.Work(1)
	a.Keep(b)
	tell(t, "its place", put(t, a, api.Node{Tag: api.TagWave, Kids: [4]int{b, ring}}), first)
	ends(t, a, ring, 2)
	ends(t, a, first, 2)
	_, is := Get(a, ring, 0)
	tell(t, "Get, All", []any{is, All(a, ring)}, []any{false, []int{}})
}

// TestP901AKidThatIsGone: somebody Dropped it too often.
func TestP901AKidThatIsGone(t *testing.T) {
	a, h := fresh(t, 300, 0, 98, 256)
	n, _ := a.Get(h)
	a.Drop(n.Kids[2])
	a.Work(100)
	none(t, "with a kid that is gone", a, h)
	a, h = fresh(t, 300, 0, 98, 256)
	n, _ = a.Get(h)
	a.Drop(n.Kids[0])
	a.Work(100)
	none(t, "with bits that are gone", a, h)
}

func TestP901ANilArena(t *testing.T) {
	for what, a := range map[string]*arena.Arena{"nil": nil, "zero": {}} {
		for _, h := range append(far(), 0, 1, 5) {
			alike(t, what, a, h, nil)
			for _, i := range append(far(), 0, 1) {
				want := api.ErrRange
				if i == 0 {
					want = api.ErrFull
				}
				g, e := Insert(a, h, i, 98)
				tell(t, fmt.Sprintf("%s: Insert at %d", what, i), []any{g, e}, []any{0, want})
				g, e = Delete(a, h, i)
				tell(t, fmt.Sprintf("%s: Delete at %d", what, i), []any{g, e}, []any{0, api.ErrRange})
			}
		}
	}
}

// TestP901VeryManySymbols: rows whose parts are one again and again are more than anybody could put in one by one.
func TestP901VeryManySymbols(t *testing.T) {
	a := arena.New(1000)
	many := func(b, times int) int {
		for range times {
			n := bits.Len(a, b)
			b = put(t, a, api.Node{Tag: api.TagFork, Kids: [4]int{b, b}, A: uint64(2 * n), B: uint64(2 * bits.Rank(a, b, n))})
		}
		return b
	}
	zeros, both := many(built(t, a, make([]bool, 64)...), 30), many(built(t, a, some65()[:64]...), 31)
	x := over(t, a, [4]int{zeros})
	for range 7 {
		x = over(t, a, [4]int{zeros, x})
	}
	h := put(t, a, api.Node{Tag: api.TagWave, Kids: [4]int{both, x, x}})
	half := 64 << 30
	tell(t, "Len, Rank, Before, Select", []int{Len(a, h), Rank(a, h, 0, math.MaxInt), Rank(a, h, 256, half), Before(a, h, 256), Select(a, h, 0, half-1), Select(a, h, 256, half-1), Select(a, h, 256, half)},
		[]int{2 * half, half, half / 2, half, 2*half - 1, 2*half - 2, -1})
	s, is := Get(a, h, half)
	g, e := Insert(a, h, half, 98)
	tell(t, "Get, Insert, Len, Select", []any{s, is, e, Len(a, g), Select(a, g, 98, 0)}, []any{256, true, api.OK, 2*half + 1, half})
}

// byBits is how many nodes bits makes, if they change at each level of a way on their own.
func byBits(t *testing.T, a *arena.Arena, h, i, s int, change func(b, i int, one bool) (int, api.Errno)) int {
	t.Helper()
	sum := 0
	for level := range 9 {
		n, _ := a.Get(h)
		one := bitOf(s, level) == 1
		made := a.Made()
		b, e := change(n.Kids[0], i, one)
		if e != api.OK {
			t.Fatal(e)
		}
		sum += a.Made() - made
		a.Drop(b)
		a.Work(api.MaxNodes)
		ones := bits.Rank(a, n.Kids[0], i)
		if h = n.Kids[1]; one {
			h, i = n.Kids[2], ones
		} else {
			i -= ones
		}
	}
	return sum
}

// mostMade is how many nodes a change of a symbol may make, by W5: at each level those of bits by P802, and one.
func mostMade(l []int, s int) int {
	sum := 0
	for level := range 9 {
		n := count(l, func(x int) bool { return x>>(9-level) == s>>(9-level) })
		sum += 4 + 4*mathbits.Len(uint(n/16)) + 1
	}
	return sum
}

// play plays one change, and holds what it made against W5.
func play(t *testing.T, a *arena.Arena, h int, l []int, i, s int, more bool) (int, []int) {
	t.Helper()
	longer, shorter := l, l
	insert := func(b, i int, one bool) (int, api.Errno) { return bits.Insert(a, b, i, one) }
	remove := func(b, i int, _ bool) (int, api.Errno) { return bits.Delete(a, b, i) }
	change := insert
	if more {
		longer = with(l, i, s)
	} else {
		shorter, s, change = without(l, i), l[i], remove
	}
	most := byBits(t, a, h, i, s, change)
	made, g, e := a.Made(), 0, api.OK
	if more {
		g, e = Insert(a, h, i, s)
	} else {
		g, e = Delete(a, h, i)
	}
	if made = a.Made() - made; e != api.OK || made > most+9 || made > mostMade(longer, s) {
		t.Fatalf("%d: of %d, at %d: %d nodes are made, not %d and 9, nor %d at most", e, s, i, made, most, mostMade(longer, s))
	}
	a.Drop(h)
	a.Work(api.MaxNodes)
	if more {
		return g, longer
	}
	return g, shorter
}

func TestP901WhatAChangeMakes(t *testing.T) {
	r := rand.New(rand.NewSource(901))
	for how, draw := range map[string]func() int{
		"all":      func() int { return r.Intn(257) },
		"edges":    func() int { return edges()[r.Intn(10)] },
		"one":      func() int { return 98 },
		"greatest": func() int { return 255 + r.Intn(2) },
	} {
		a, h, l := arena.New(api.MaxNodes), 0, []int(nil)
		look := func() {
			t.Helper()
			if got := sound(t, a, h, 0, len(l)); !slices.Equal(got, l) || a.Used() != len(a.Reach(h)) {
				t.Fatalf("%s: %d are used, %d are reached; %v, not %v", how, a.Used(), len(a.Reach(h)), got, l)
			}
		}
		for len(l) < 410 {
			i := r.Intn(len(l) + 1)
			if len(l) > 0 && r.Intn(4) == 0 {
				h, l = play(t, a, h, l, i%len(l), 0, false)
			} else {
				h, l = play(t, a, h, l, i, draw(), true)
			}
			look()
		}
		alike(t, how, a, h, l)
		for len(l) > 0 {
			h, l = play(t, a, h, l, []int{0, len(l) - 1, r.Intn(len(l))}[len(l)%3], 0, false)
			look()
		}
		tell(t, how+": all gone", []int{h, a.Used()}, []int{0, 0})
	}
}

func TestP901WhatDoesNotChangeIsShared(t *testing.T) {
	l := []int{256, 0, 128, 0, 3}
	a, h := fresh(t, 500, l...)
	g, e := Insert(a, h, 2, 0)
	tell(t, "Insert", e, api.OK)
	x, y := h, g
	for level := range 9 {
		p, _ := a.Get(x)
		q, _ := a.Get(y)
		if p.Kids[2] != q.Kids[2] || p.Kids[0] == q.Kids[0] || p.Kids[1] == q.Kids[1] && level < 8 {
			t.Fatalf("level %d: %v, %v", level, p, q)
		}
		x, y = p.Kids[1], q.Kids[1]
	}
	made := a.Made()
	Insert(a, h, 0, 256)
	Delete(a, h, 0)
	Delete(a, h, 1)
	tell(t, "what waits, what is used, of what was made", []int{a.Pending(), a.Used()}, []int{0, a.Made()})
	tell(t, "whether that is something", a.Made() > made, true)
}

func TestP901WorkIsNotCalled(t *testing.T) {
	a, h := fresh(t, 500, some(30)...)
	a.Drop(byHand(t, a, 0, 5, 6))
	waits := a.Pending()
	g, _ := Insert(a, h, 7, 98)
	x, _ := Delete(a, g, 3)
	tell(t, "told, what waits", []any{g != 0 && x != 0, a.Pending()}, []any{true, waits})
}

func TestP901AnswersAreNew(t *testing.T) {
	a, h := fresh(t, 500, some(30)...)
	x, y := All(a, h), All(a, h)
	clear(x)
	tell(t, "another answer, the row", []any{y, All(a, h)}, []any{some(30), some(30)})
}

func TestP901EachStaysAsItIs(t *testing.T) {
	r := rand.New(rand.NewSource(9012))
	a := arena.New(api.MaxNodes)
	had, lists := []int{0}, [][]int{nil}
	for range 500 {
		k := r.Intn(len(had))
		h, l := had[k], lists[k]
		a.Keep(h)
		i, s := r.Intn(len(l)+1), edges()[r.Intn(10)]
		h, l = play(t, a, h, l, min(i, max(len(l)-1, 0)), s, len(l) == 0 || r.Intn(3) > 0)
		if k = r.Intn(20); k < len(had) && k > 0 {
			a.Drop(had[k])
			had[k], lists[k] = h, l
		} else {
			had, lists = append(had, h), append(lists, l)
		}
		a.Work(api.MaxNodes)
	}
	for k, h := range had {
		alike(t, "kept", a, h, lists[k])
	}
	counted(t, a, slices.DeleteFunc(slices.Clone(had), func(h int) bool { return h == 0 })...)
	tell(t, "what is used", a.Used(), len(a.Reach(had...)))
	for _, h := range had {
		a.Drop(h)
	}
	a.Work(api.MaxNodes)
	tell(t, "what is left", a.Used(), 0)
}

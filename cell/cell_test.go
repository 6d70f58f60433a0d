package cell

import (
	"fmt"
	"math"
	"math/rand"
	"testing"

	"scrinium/api"
	"scrinium/arena"
	"scrinium/put"
	"scrinium/version"
)

// far are numbers that are no handle, up to the ends of int.
func far() []int {
	return []int{-1, -2, -64, api.MaxNodes + 1, 1 << 20, math.MaxInt32, math.MinInt32, math.MaxInt - 1, math.MaxInt, math.MinInt, math.MinInt + 1}
}

func tell(t *testing.T, what string, got, want any) {
	t.Helper()
	if g, w := fmt.Sprint(got), fmt.Sprint(want); g != w {
		t.Errorf("%s: %s, not %s", what, g, w)
	}
}

func l(x ...any) []any { return x }

// look is what the cell tells of itself.
func look(c *Cell) []any {
	h, n := c.Look()
	return l(h, n, c.Number(), c.Fails())
}

func read(c *Cell) []any {
	h, n := c.Read()
	return l(h, n)
}

// state is what there is to be seen of an arena.
func state(a *arena.Arena) []any {
	var counts []int
	for h := 1; h <= a.Size(); h++ {
		counts = append(counts, a.Count(h))
	}
	return l(counts, a.Used(), a.Pending(), a.Made())
}

// made is a version, counted once for who asked.
func made(t *testing.T, a *arena.Arena) int {
	t.Helper()
	h, e := a.Make(api.Node{Tag: api.TagRoot})
	if e != api.OK {
		t.Fatal(e)
	}
	return h
}

// with is the version behind a document that comes into root.
func with(t *testing.T, a *arena.Arena, root, id int, text string) int {
	t.Helper()
	p, e := put.New(a, root, 4, id, text)
	for over := false; !over && e == api.OK; {
		over, e = p.Step()
	}
	if e != api.OK {
		t.Fatal(e)
	}
	return p.Root()
}

func TestP1701Example(t *testing.T) {
	c := New(arena.New(9))
	tell(t, "Publish, Number", l(c.Publish(0, 0), c.Number()), l(true, 1))
}

func TestP1701New(t *testing.T) {
	a := arena.New(3)
	c := New(a)
	tell(t, "new", look(c), l(0, 0, 0, 0))
	tell(t, "its arena", state(a), state(arena.New(3)))
	tell(t, "of nil", l(New(nil) == nil, New(&arena.Arena{}) == nil, New(a) == nil), l(true, true, false))
}

func TestP1701None(t *testing.T) {
	for _, c := range []*Cell{nil, {}, New(nil)} {
		tell(t, "read", read(c), l(0, 0))
		for _, n := range append(far(), 0, 1) {
			tell(t, "publish", l(c.Publish(n, 0), c.Publish(0, n), c.Publish(n, n)), l(false, false, false))
		}
		tell(t, "look", look(c), l(0, 0, 0, 0))
	}
}

func TestP1701Look(t *testing.T) {
	a := arena.New(9)
	c := New(a)
	h := made(t, a)
	c.Publish(0, h)
	before := state(a)
	tell(t, "look", l(look(c), look(c)), l(l(h, 1, 1, 0), l(h, 1, 1, 0)))
	tell(t, "nothing is counted", state(a), before)
}

func TestP1701Read(t *testing.T) {
	a := arena.New(9)
	c := New(a)
	tell(t, "empty", l(read(c), read(c), state(a)), l(l(0, 0), l(0, 0), state(arena.New(9))))
	h := made(t, a)
	c.Publish(0, h)
	for i := 2; i < 9; i++ {
		tell(t, "read", l(read(c), a.Count(h), look(c)), l(l(h, 1), i, l(h, 1, 1, 0)))
	}
	tell(t, "no node more", l(a.Made(), a.Used(), a.Pending()), l(1, 1, 0))
	g := made(t, a)
	c.Publish(1, g)
	tell(t, "the new one", l(read(c), a.Count(h), a.Count(g)), l(l(g, 2), 7, 2))
	c.Publish(2, 0)
	tell(t, "empty again", l(read(c), a.Count(h), a.Count(g)), l(l(0, 3), 7, 1))
}

func TestP1701Publish(t *testing.T) {
	a := arena.New(9)
	c := New(a)
	one, two := made(t, a), made(t, a)
	tell(t, "one", l(c.Publish(0, one), look(c), a.Count(one), a.Count(two), a.Pending()), l(true, l(one, 1, 1, 0), 1, 1, 0))
	tell(t, "two", l(c.Publish(1, two), look(c), a.Count(one), a.Count(two), a.Pending()), l(true, l(two, 2, 2, 0), 0, 1, 1))
	tell(t, "it waits, and isn't freed", l(a.Used(), a.Work(9), a.Used()), l(2, 1, 1))
	tell(t, "none", l(c.Publish(2, 0), look(c), a.Count(two), a.Pending()), l(true, l(0, 3, 3, 0), 0, 1))
	tell(t, "none again", l(c.Publish(3, 0), look(c), a.Pending(), a.Work(9), a.Used()), l(true, l(0, 4, 4, 0), 1, 1, 0))
}

func TestP1701PublishOfOneThatOthersHave(t *testing.T) {
	a := arena.New(9)
	c := New(a)
	h := made(t, a)
	a.Keep(h)
	a.Keep(h)
	tell(t, "in", l(c.Publish(0, h), a.Count(h)), l(true, 3))
	tell(t, "the same", l(c.Publish(1, h), look(c), a.Count(h), a.Pending()), l(true, l(h, 2, 2, 0), 2, 0))
	tell(t, "out", l(c.Publish(2, 0), a.Count(h), a.Pending()), l(true, 1, 0))
	tell(t, "in again", l(c.Publish(3, h), look(c), a.Count(h)), l(true, l(h, 4, 4, 0), 1))
}

func TestP1701TooLate(t *testing.T) {
	a := arena.New(9)
	c := New(a)
	fails := 0
	for number := range 4 {
		h := made(t, a)
		before := state(a)
		root, _ := c.Look()
		for _, from := range append(far(), number-1, number-2, number+1, number+2, -number-1) {
			tell(t, "a version", c.Publish(from, h), false)
			tell(t, "none", c.Publish(from, 0), false)
			tell(t, "the one that is there", c.Publish(from, root), false)
			tell(t, "no version", c.Publish(from, -1), false)
			fails += 4
			tell(t, "nothing changes", l(look(c), state(a)), l(l(root, number, number, fails), before))
		}
		tell(t, "in time", l(c.Publish(number, h), look(c)), l(true, l(h, number+1, number+1, fails)))
	}
}

func TestP1701PublishOfNoVersion(t *testing.T) {
	a := arena.New(20)
	c := New(a)
	h := made(t, a)
	c.Publish(0, h)
	leaf, _ := a.Make(api.Node{Tag: api.TagLeaf, A: 1, B: 1})
	join, _ := a.Make(api.Node{Tag: api.TagJoin})
	first, _ := a.Make(api.Node{Tag: api.TagRoot, A: 1})
	second, _ := a.Make(api.Node{Tag: api.TagRoot, B: 1})
	waits, freed := made(t, a), made(t, a)
	a.Drop(freed)
	a.Work(1)
	a.Drop(waits)
	before := state(a)
	fails := 0
	for _, root := range append(far(), leaf, join, first, second, waits, freed, 20, 21) {
		fails++
		tell(t, fmt.Sprint("publish of ", root), l(c.Publish(1, root), look(c)), l(false, l(h, 1, 1, fails)))
		tell(t, "nothing changes", state(a), before)
	}
}

func TestP1701ReadersKeepTheirs(t *testing.T) {
	a := arena.New(400)
	c := New(a)
	docs := []api.Doc{}
	var kept []int
	for i, text := range []string{"banana", "", "nan", "ananas"} {
		root, number := c.Look()
		tell(t, "publish", c.Publish(number, with(t, a, root, i+1, text)), true)
		docs = append(docs, api.Doc{Id: i + 1, Text: text})
		h, n := c.Read()
		tell(t, "read", l(n, a.Count(h), version.Check(a, h, 4, docs...)), l(i+1, 2, true))
		kept = append(kept, h)
		a.Work(api.MaxNodes)
	}
	tell(t, "out", c.Publish(4, 0), true)
	a.Work(api.MaxNodes)
	for i, h := range kept {
		tell(t, "as it was", l(a.Count(h), version.Check(a, h, 4, docs[:i+1]...)), l(1, true))
		a.Drop(h)
	}
	a.Work(api.MaxNodes)
	tell(t, "nobody has any", l(a.Used(), a.Pending(), c.Fails()), l(0, 0, 0))
}

func TestP1701WhatNobodyHasIsFreed(t *testing.T) {
	a := arena.New(400)
	c := New(a)
	for i := range 6 {
		root, number := c.Look()
		h := with(t, a, root, i+1, "mississippi"[i:])
		tell(t, "publish", c.Publish(number, h), true)
		a.Work(api.MaxNodes)
		tell(t, "just the version's are used", a.Used(), len(a.Reach(h)))
		if root != 0 {
			tell(t, "the one ahead is freed", a.Count(root), 0)
		}
	}
}

func TestP1701OneOfManyIsFirst(t *testing.T) {
	a := arena.New(400)
	c := New(a)
	fails := 0
	for number := range 5 {
		root, from := c.Read()
		mine, yours := with(t, a, root, 2*number+1, "nan"), with(t, a, root, 2*number+2, "an")
		tell(t, "the first", l(c.Publish(from, mine), c.Publish(from, yours)), l(true, false))
		fails++
		tell(t, "the second has its own yet", l(look(c), a.Count(yours)), l(l(mine, number+1, number+1, fails), 1))
		a.Drop(yours)
		a.Drop(root)
		a.Work(api.MaxNodes)
		tell(t, "used", a.Used(), len(a.Reach(mine)))
	}
}

func TestP1701CellsAreTheirOwn(t *testing.T) {
	a := arena.New(9)
	c, d := New(a), New(a)
	h := made(t, a)
	a.Keep(h)
	tell(t, "both", l(c.Publish(0, h), d.Publish(0, h), c.Publish(1, 0), d.Publish(0, 0)), l(true, true, true, false))
	tell(t, "each", l(look(c), look(d), a.Count(h)), l(l(0, 2, 2, 0), l(h, 1, 1, 1), 1))
}

// drawn is a cell, and what a plain one would be.
type drawn struct {
	a                   *arena.Arena
	c                   *Cell
	root, number, fails int
	own                 []int // handles that somebody has, one each
}

// lose is one that somebody has no more.
func (d *drawn) lose(r *rand.Rand) int {
	if len(d.own) == 0 {
		return 0
	}
	i := r.Intn(len(d.own))
	h := d.own[i]
	d.own = append(d.own[:i], d.own[i+1:]...)
	return h
}

func (d *drawn) publish(t *testing.T, r *rand.Rand) {
	from, root := d.number+r.Intn(3)-1, 0
	if r.Intn(5) > 0 {
		root = d.lose(r)
	}
	tell(t, "publish", d.c.Publish(from, root), from == d.number)
	if from == d.number {
		d.root, d.number = root, d.number+1
		return
	}
	d.fails++
	if root != 0 {
		d.own = append(d.own, root)
	}
}

func (d *drawn) step(t *testing.T, r *rand.Rand) {
	switch r.Intn(5) {
	case 0:
		if h, e := d.a.Make(api.Node{Tag: api.TagRoot}); e == api.OK {
			d.own = append(d.own, h)
		}
	case 1:
		tell(t, "read", read(d.c), l(d.root, d.number))
		if d.root != 0 {
			d.own = append(d.own, d.root)
		}
	case 2:
		d.a.Drop(d.lose(r))
	case 3:
		d.a.Work(r.Intn(3))
	default:
		d.publish(t, r)
	}
}

// counted tells how often each is counted.
func (d *drawn) counted() []int {
	n := make([]int, d.a.Size()+1)
	for _, h := range d.own {
		n[h]++
	}
	if d.root != 0 {
		n[d.root]++
	}
	return n[1:]
}

func TestP1701Drawn(t *testing.T) {
	r := rand.New(rand.NewSource(1701))
	for range 200 {
		d := drawn{a: arena.New(1 + r.Intn(8))}
		d.c = New(d.a)
		for range 100 {
			d.step(t, r)
			tell(t, "look", look(d.c), l(d.root, d.number, d.number, d.fails))
			tell(t, "counts", state(d.a)[0], d.counted())
			if t.Failed() {
				return
			}
		}
	}
}

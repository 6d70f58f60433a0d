package arena

import (
	"fmt"
	"math"
	"math/rand"
	"slices"
	"testing"

	"scrinium/api"
)

// far are numbers that are no handle and no tag, up to the ends of int.
func far() []int {
	return []int{-1, -2, -64, -65, api.MaxNodes + 1, 1 << 16, math.MaxInt32, math.MinInt32, math.MaxInt, math.MinInt, math.MinInt + 1}
}

func node(tag int, kids ...int) api.Node {
	n := api.Node{Tag: tag, A: 1 << 63, B: math.MaxUint64}
	copy(n.Kids[:], kids)
	return n
}

// filled is an arena with these nodes, from the handle 1 on.
func filled(t *testing.T, size int, l ...api.Node) *Arena {
	t.Helper()
	a := New(size)
	for i, n := range l {
		if h, e := a.Make(n); h != i+1 || e != api.OK {
			t.Fatalf("Make(%v): %d %d, not %d", n, h, e, i+1)
		}
	}
	return a
}

// image is all that an arena tells.
func image(a *Arena) string {
	s := fmt.Sprint(a.Size(), a.Used(), a.Pending(), a.Made())
	for h := -1; h <= a.Size()+1; h++ {
		n, is := a.Get(h)
		s += fmt.Sprint(" ", h, a.Count(h), n, is, a.Reach(h))
	}
	return s
}

func tell(t *testing.T, what string, got, want any) {
	t.Helper()
	if g, w := fmt.Sprint(got), fmt.Sprint(want); g != w {
		t.Errorf("%s: %s, not %s", what, g, w)
	}
}

func TestP601NewIsOfOneToMaxNodes(t *testing.T) {
	for _, size := range []int{1, 2, 63, 64, 65, 127, 128, api.MaxNodes - 1, api.MaxNodes} {
		a := New(size)
		if a == nil {
			t.Errorf("New(%d): nil", size)
			continue
		}
		tell(t, "a new one", []int{a.Size(), a.Used(), a.Pending(), a.Made(), len(a.Reach(1, size))}, []int{size, 0, 0, 0, 0})
	}
	for _, size := range append(far(), 0) {
		if New(size) != nil {
			t.Errorf("New(%d) is not nil", size)
		}
	}
}

func TestP601TheExample(t *testing.T) {
	a := New(3)
	h, e := a.Make(node(1))
	tell(t, "Make, Drop, Pending, Work(9), Used", []any{h, e, a.Drop(1), a.Pending(), a.Work(9), a.Used()}, []any{1, 0, 0, 1, 1, 0})
}

func TestP601MakeOfEachTag(t *testing.T) {
	a := New(6)
	for tag := api.TagLeaf; tag <= api.TagRoot; tag++ {
		want := api.Node{Tag: tag, A: uint64(tag), B: math.MaxUint64 - uint64(tag)}
		h, e := a.Make(want)
		got, is := a.Get(h)
		if h != tag || e != api.OK || got != want || !is || a.Count(h) != 1 {
			t.Errorf("Make(%v): %d %d, Get: %v %v, Count: %d", want, h, e, got, is, a.Count(h))
		}
	}
}

func TestP601MakeTellsTheFirstErrorAndChangesNothing(t *testing.T) {
	a := filled(t, 4, node(1), node(2, 1), node(1))
	a.Drop(3)
	kept := image(a)
	refuse := func(n api.Node, want api.Errno) {
		t.Helper()
		if h, e := a.Make(n); h != 0 || e != want {
			t.Errorf("Make(%v): %d %d, not 0 %d", n, h, e, want)
		}
		if got := image(a); got != kept {
			t.Errorf("Make(%v) left %s, not %s", n, got, kept)
		}
	}
	wrong := append(far(), 3, 4, 5) // one that waits, one that is free, none
	all := func() {
		t.Helper()
		for _, tag := range append(far(), 0, 7) {
			refuse(node(tag), api.ErrArg)
			refuse(node(tag, 1, 99), api.ErrArg)
		}
		for _, h := range wrong {
			refuse(node(1, h), api.ErrHandle)
			refuse(node(2, 1, h), api.ErrHandle)
			refuse(node(3, 1, 2, h), api.ErrHandle)
			refuse(node(6, 1, 1, 2, h), api.ErrHandle)
			refuse(node(6, 0, 0, 0, h), api.ErrHandle)
		}
	}
	all()
	a.Make(node(1))
	kept, wrong = image(a), append(far(), 3, 5)
	all()
	refuse(node(1), api.ErrFull)
	refuse(node(2, 1, 2), api.ErrFull)
}

func TestP601MakeCountsEachKid(t *testing.T) {
	a := filled(t, 9, node(1), node(1), node(2, 1, 2), node(3, 0, 1, 0, 1), node(6, 3, 3, 3, 3), node(5))
	tell(t, "counts", []int{a.Count(1), a.Count(2), a.Count(3), a.Count(4), a.Count(5), a.Count(6), a.Count(7)}, []int{4, 2, 5, 1, 1, 1, 0})
}

func TestP601MakeTakesTheLeastFree(t *testing.T) {
	for _, size := range []int{1, 5, 63, 64, 65, 200, api.MaxNodes} {
		a := New(size)
		for h := 1; h <= size; h++ {
			if got, e := a.Make(node(4)); got != h || e != api.OK {
				t.Fatalf("Make %d of %d: %d %d", h, size, got, e)
			}
		}
		if h, e := a.Make(node(4)); h != 0 || e != api.ErrFull {
			t.Errorf("Make in a full one of %d: %d %d", size, h, e)
		}
		gone := []int{size, (size + 1) / 2, 1, (size + 2) / 3}
		for _, h := range gone {
			a.Drop(h)
		}
		if h, e := a.Make(node(4)); h != 0 || e != api.ErrFull {
			t.Errorf("Make while some wait of %d: %d %d", size, h, e)
		}
		slices.Sort(gone)
		gone = slices.Compact(gone)
		tell(t, "freed", a.Work(size), len(gone))
		for _, want := range gone {
			if h, e := a.Make(node(5)); h != want || e != api.OK {
				t.Errorf("Make of %d: %d %d, not %d", size, h, e, want)
			}
		}
		if h, e := a.Make(node(4)); h != 0 || e != api.ErrFull {
			t.Errorf("Make in one of %d that is full again: %d %d", size, h, e)
		}
	}
}

func TestP601GetOfLiveAndWaiting(t *testing.T) {
	want := node(2, 1, 1)
	a := filled(t, 3, node(1), want)
	get := func(h int) []any { n, is := a.Get(h); return []any{n, is} }
	tell(t, "a live one", get(2), []any{want, true})
	tell(t, "one that was never made", get(3), []any{api.Node{}, false})
	a.Drop(2)
	tell(t, "a waiting one", get(2), []any{want, true})
	a.Work(1)
	for _, h := range append(far(), 0, 2, 3, 4) {
		tell(t, fmt.Sprint("Get of no node ", h), get(h), []any{api.Node{}, false})
	}
}

func TestP601KeepAndDrop(t *testing.T) {
	a := filled(t, 3, node(1), node(1))
	for want := 2; want < 50; want++ {
		tell(t, "Keep", []any{a.Keep(1), a.Count(1)}, []any{0, want})
	}
	for want := 48; want >= 1; want-- {
		tell(t, "Drop", []any{a.Drop(1), a.Count(1), a.Pending()}, []any{0, want, 0})
	}
	tell(t, "the last Drop", []any{a.Drop(1), a.Count(1), a.Pending(), a.Used(), a.Count(2)}, []any{0, 0, 1, 2, 1})
	kept := image(a)
	for _, h := range append(far(), 0, 1, 3, 4) { // one that waits, one that is free, none
		tell(t, fmt.Sprint("Keep, Drop of ", h), []api.Errno{a.Keep(h), a.Drop(h)}, []api.Errno{api.ErrHandle, api.ErrHandle})
	}
	tell(t, "what is left", image(a), kept)
	a.Work(1)
	tell(t, "Keep, Drop of a freed one", []api.Errno{a.Keep(1), a.Drop(1)}, []api.Errno{api.ErrHandle, api.ErrHandle})
}

func TestP601WorkFreesTheFirstFirst(t *testing.T) {
	a := filled(t, 5, node(1), node(1), node(1), node(1), node(1))
	order := []int{4, 2, 5, 1, 3}
	for _, h := range order {
		a.Drop(h)
	}
	for i, h := range order {
		for j, other := range order {
			if _, is := a.Get(other); is != (j >= i) {
				t.Errorf("%d is there: %v, when %d are freed", other, is, i)
			}
		}
		if got := a.Work(1); got != 1 {
			t.Errorf("Work for %d: %d", h, got)
		}
	}
	tell(t, "nothing more", []int{a.Work(1), a.Used(), a.Pending()}, []int{0, 0, 0})
}

func TestP601WorkDropsKidsInOrder(t *testing.T) {
	a := filled(t, 9, node(1), node(1), node(1), node(1), node(6, 3, 1, 4, 2), node(1))
	for h := 1; h <= 5; h++ {
		a.Drop(h)
	}
	a.Drop(6)
	tell(t, "one waits behind", []int{a.Work(1), a.Pending(), a.Used()}, []int{1, 5, 5})
	for _, h := range []int{6, 3, 1, 4, 2} {
		if _, is := a.Get(h); !is {
			t.Errorf("%d is free too early", h)
		}
		a.Work(1)
		if _, is := a.Get(h); is {
			t.Errorf("%d is not free yet", h)
		}
	}
}

func TestP601WorkDropsAKidAsOftenAsItIsThere(t *testing.T) {
	a := filled(t, 3, node(1), node(6, 1, 0, 1, 1))
	a.Drop(2)
	tell(t, "while it waits", a.Count(1), 4)
	tell(t, "freed", []int{a.Work(9), a.Count(1), a.Used(), a.Pending()}, []int{1, 1, 1, 0})
}

func TestP601WorkFreesNoMoreThanMost(t *testing.T) {
	for _, most := range []int{math.MinInt, -1, 0, 1, 2, 7, 8, 9, math.MaxInt} {
		a := New(8)
		a.Make(node(1))
		for h := 1; h < 8; h++ {
			a.Make(node(2, h, h))
			a.Drop(h)
		}
		a.Drop(8)
		want := min(max(most, 0), 8)
		left := 8 - want
		tell(t, fmt.Sprint("Work of ", most), []int{a.Work(most), a.Used(), a.Pending()}, []int{want, left, min(left, 1)})
	}
}

func TestP601WorkOnADeepOne(t *testing.T) {
	a := New(api.MaxNodes)
	for h := 0; h < api.MaxNodes; h++ {
		a.Make(node(3, h))
		if h > 0 {
			a.Drop(h)
		}
	}
	if got := a.Reach(api.MaxNodes); len(got) != api.MaxNodes || got[0] != 1 {
		t.Errorf("Reach of all: %d", len(got))
	}
	a.Drop(api.MaxNodes)
	tell(t, "Work", []int{a.Work(1), a.Pending(), a.Count(api.MaxNodes - 1), a.Count(api.MaxNodes - 2)}, []int{1, 1, 0, 1})
	tell(t, "Work for the others", []int{a.Work(math.MaxInt), a.Used(), a.Pending(), a.Made()}, []int{api.MaxNodes - 1, 0, 0, api.MaxNodes})
}

// TestP601ManyMakesInAGreatOne would take long, if each Make went through all handles.
func TestP601ManyMakesInAGreatOne(t *testing.T) {
	a := New(api.MaxNodes)
	for range api.MaxNodes - 1 {
		a.Make(node(1))
	}
	const n = 500000
	for range n {
		if h, e := a.Make(node(1)); h != api.MaxNodes || e != api.OK {
			t.Fatalf("Make: %d %d", h, e)
		}
		a.Drop(api.MaxNodes)
		a.Work(1)
	}
	tell(t, "Made, Used", []int{a.Made(), a.Used()}, []int{n + api.MaxNodes - 1, api.MaxNodes - 1})
}

func TestP602Counts(t *testing.T) {
	a := filled(t, 4, node(1), node(2, 1), node(1))
	a.Keep(3)
	a.Drop(2)
	for h, want := range map[int]int{0: 0, 1: 2, 2: 0, 3: 2, 4: 0, 5: 0, -1: 0, math.MaxInt: 0, math.MinInt: 0} {
		if got := a.Count(h); got != want {
			t.Errorf("Count(%d): %d, not %d", h, got, want)
		}
	}
	tell(t, "while one waits", []int{a.Used(), a.Pending(), a.Made(), a.Size()}, []int{3, 1, 3, 4})
	a.Work(1)
	tell(t, "behind Work", []int{a.Used(), a.Pending(), a.Made(), a.Count(1)}, []int{2, 0, 3, 1})
}

func TestP602MadeIsOfThoseThatWereOK(t *testing.T) {
	a := New(1)
	a.Make(node(0))
	a.Make(node(1, 1))
	tell(t, "none yet", a.Made(), 0)
	for want := 1; want < 20; want++ {
		a.Make(node(1))
		a.Make(node(1))
		tell(t, "Made", a.Made(), want)
		a.Drop(1)
		a.Work(1)
	}
}

func TestP602Reach(t *testing.T) {
	a := filled(t, 12, node(1), node(1), node(2, 1, 2), node(1), node(2, 3, 4), node(6, 5, 0, 3, 5), node(1), node(3, 0, 0, 0, 7))
	for _, c := range []struct{ roots, want []int }{
		{nil, nil}, {[]int{0}, nil}, {far(), nil}, {[]int{9, 12, 13}, nil},
		{[]int{1}, []int{1}}, {[]int{2, 1, 2, 1}, []int{1, 2}}, {[]int{3}, []int{1, 2, 3}}, {[]int{4, 3, 0}, []int{1, 2, 3, 4}},
		{[]int{6}, []int{1, 2, 3, 4, 5, 6}}, {[]int{8}, []int{7, 8}}, {append(far(), 8, 12, 6, 0, 8), []int{1, 2, 3, 4, 5, 6, 7, 8}},
	} {
		kept := slices.Clone(c.roots)
		if got := a.Reach(c.roots...); !slices.Equal(got, c.want) || !slices.Equal(kept, c.roots) {
			t.Errorf("Reach(%v): %v, not %v", kept, got, c.want)
		}
	}
	tell(t, "Reach of many", a.Reach(slices.Repeat([]int{8, 0, 99}, 100000)...), []int{7, 8})
}

func TestP602ReachOfWaitingOnesIsNone(t *testing.T) {
	a := filled(t, 4, node(1), node(2, 1, 1), node(2, 1, 2))
	for h := 1; h <= 3; h++ {
		a.Drop(h)
	}
	tell(t, "of one that waits", a.Reach(3), []int{})
	tell(t, "beside a live one", a.Reach(3, 2), []int{1, 2})
	a.Work(1)
	tell(t, "when it is free", a.Reach(3, 2, 1), []int{1})
}

func TestP602ReachIsNewEachTime(t *testing.T) {
	a := filled(t, 4, node(1), node(2, 1))
	roots := []int{2, 0, 1, 7}
	first := a.Reach(roots...)
	first[0], first[1] = -7, -7
	_ = append(first[:0], -7, -7, -7)
	tell(t, "a second time", a.Reach(roots...), []int{1, 2})
	tell(t, "the roots", roots, []int{2, 0, 1, 7})
}

func TestP602NilAndZero(t *testing.T) {
	var none *Arena
	for _, a := range []*Arena{none, {}, New(0), New(-1)} {
		for _, n := range []api.Node{node(1), node(6, 0, 0), node(0), node(7), node(1, 1)} {
			if h, e := a.Make(n); h != 0 || e != api.ErrFull {
				t.Errorf("Make(%v): %d %d", n, h, e)
			}
		}
		for _, h := range append(far(), 0, 1, 2, api.MaxNodes) {
			n, is := a.Get(h)
			tell(t, fmt.Sprint("of ", h), []any{n, is, a.Keep(h), a.Drop(h), a.Count(h), a.Work(h), a.Reach(h, 1)},
				[]any{api.Node{}, false, api.ErrHandle, api.ErrHandle, 0, 0, []int{}})
		}
		tell(t, "numbers", []int{a.Used(), a.Pending(), a.Size(), a.Made(), len(a.Reach())}, []int{0, 0, 0, 0, 0})
	}
}

// plain is what an arena must be, a state a handle: -1 free, 0 waiting, else the count.
type plain struct {
	nodes   []api.Node
	state   []int
	waiting []int
	made    int
}

func plainOf(size int) *plain {
	return &plain{nodes: make([]api.Node, size+1), state: slices.Repeat([]int{-1}, size+1)}
}

func (p *plain) live(h int) bool { return h > 0 && h < len(p.state) && p.state[h] > 0 }

func (p *plain) make(n api.Node) (int, api.Errno) {
	if n.Tag < 1 || n.Tag > 6 {
		return 0, api.ErrArg
	}
	for _, k := range n.Kids {
		if k != 0 && !p.live(k) {
			return 0, api.ErrHandle
		}
	}
	for h := 1; h < len(p.state); h++ {
		if p.state[h] >= 0 {
			continue
		}
		for _, k := range n.Kids {
			if k != 0 {
				p.state[k]++
			}
		}
		p.nodes[h], p.state[h] = n, 1
		p.made++
		return h, api.OK
	}
	return 0, api.ErrFull
}

func (p *plain) add(h, n int) api.Errno {
	if !p.live(h) {
		return api.ErrHandle
	}
	p.state[h] += n
	if p.state[h] == 0 {
		p.waiting = append(p.waiting, h)
	}
	return api.OK
}

func (p *plain) work(most int) int {
	n := 0
	for ; n < most && len(p.waiting) > 0; n++ {
		h := p.waiting[0]
		p.waiting = slices.Clone(p.waiting[1:])
		p.state[h] = -1
		for _, k := range p.nodes[h].Kids {
			p.add(k, -1)
		}
	}
	return n
}

// reach goes on till nothing is new.
func (p *plain) reach(roots []int) []int {
	var l []int
	more := roots
	for len(more) > 0 {
		var next []int
		for _, h := range more {
			if p.live(h) && !slices.Contains(l, h) {
				l = append(l, h)
				next = append(next, p.nodes[h].Kids[:]...)
			}
		}
		more = next
	}
	slices.Sort(l)
	return l
}

func (p *plain) image() string {
	used := 0
	for _, s := range p.state[1:] {
		if s >= 0 {
			used++
		}
	}
	s := fmt.Sprint(len(p.state)-1, used, len(p.waiting), p.made)
	for h := -1; h <= len(p.state); h++ {
		n, is, count := api.Node{}, false, 0
		if h > 0 && h < len(p.state) && p.state[h] >= 0 {
			n, is, count = p.nodes[h], true, p.state[h]
		}
		s += fmt.Sprint(" ", h, count, n, is, p.reach([]int{h}))
	}
	return s
}

// TestP601P602AsAPlainOne draws calls of every kind, wrong ones too; handles may be Dropped more often than they are had.
func TestP601P602AsAPlainOne(t *testing.T) {
	draw := rand.New(rand.NewSource(7))
	for round := range 120 {
		size := 1 + draw.Intn(12)
		a, p := New(size), plainOf(size)
		handle := func() int { return draw.Intn(size+3) - 1 }
		for step := range 150 {
			var got, want []any
			switch kind := draw.Intn(9); kind {
			case 0, 1, 2, 3:
				n := api.Node{Tag: 1 + draw.Intn(6), A: draw.Uint64(), B: draw.Uint64()}
				if draw.Intn(12) == 0 {
					n.Tag = 7 * draw.Intn(2)
				}
				for i := range draw.Intn(5) {
					if h := handle(); a.Count(h) > 0 || draw.Intn(12) == 0 {
						n.Kids[i] = h
					}
				}
				h, e := a.Make(n)
				g, f := p.make(n)
				got, want = []any{n, h, e}, []any{n, g, f}
			case 4:
				h := handle()
				got, want = []any{h, a.Keep(h)}, []any{h, p.add(h, 1)}
			case 5, 6:
				h := handle()
				got, want = []any{h, a.Drop(h)}, []any{h, p.add(h, -1)}
			case 7:
				most := draw.Intn(4) - 1
				got, want = []any{a.Work(most)}, []any{p.work(most)}
			default:
				roots := []int{handle(), handle(), handle()}
				got, want = []any{roots, a.Reach(roots...)}, []any{roots, p.reach(roots)}
			}
			if fmt.Sprint(got) != fmt.Sprint(want) || image(a) != p.image() {
				t.Fatalf("round %d, step %d: %v, not %v:\n%s\n%s", round, step, got, want, image(a), p.image())
			}
		}
	}
}

// counted tells how often each node must be counted: as a kid of those that are live or wait, and by who has it.
func counted(a *Arena, held map[int]int) []int {
	l := make([]int, a.Size()+1)
	for h := range l {
		l[h] += held[h]
		n, _ := a.Get(h)
		for _, kid := range n.Kids {
			l[kid]++
		}
	}
	return l[1:]
}

func TestP603EachCountIsOfKidsAndOfWhoHasIt(t *testing.T) {
	draw := rand.New(rand.NewSource(8))
	for round := range 60 {
		size := 1 + draw.Intn(40)
		a, held := New(size), map[int]int{}
		for range 300 {
			h := 1 + draw.Intn(size)
			switch kind := draw.Intn(8); {
			case kind < 4:
				n := node(1 + draw.Intn(6))
				for i := range draw.Intn(5) {
					if kid := 1 + draw.Intn(size); a.Count(kid) > 0 {
						n.Kids[i] = kid
					}
				}
				if made, e := a.Make(n); e == api.OK {
					held[made]++
				}
			case kind == 4 && a.Keep(h) == api.OK:
				held[h]++
			case kind == 5 || kind == 6:
				if held[h] > 0 && a.Drop(h) == api.OK {
					held[h]--
				}
			case kind == 7:
				a.Work(draw.Intn(5))
			}
			for i, want := range counted(a, held) {
				if got := a.Count(i + 1); got != want {
					t.Fatalf("round %d: the count of %d: %d, not %d", round, i+1, got, want)
				}
			}
		}
		for h, n := range held {
			for range n {
				a.Drop(h)
			}
		}
		a.Work(size)
		tell(t, "when nobody has any", []int{a.Used(), a.Pending()}, []int{0, 0})
	}
}

func TestP603ASharedNodeStaysTillTheLastOneGoes(t *testing.T) {
	a := filled(t, 9, node(1), node(2, 1, 1), node(6, 2), node(6, 2, 1))
	a.Drop(1)
	a.Drop(2)
	a.Drop(3)
	tell(t, "one root went", []int{a.Work(9), a.Used(), a.Count(2), a.Count(1)}, []int{1, 3, 1, 3})
	tell(t, "it is reached", a.Reach(4), []int{1, 2, 4})
	a.Drop(4)
	tell(t, "both went", []int{a.Work(9), a.Used()}, []int{3, 0})
}

// TestP601DropsBeyondWhatOneHas takes a kid away from below a node: Work passes over what is not live any more, and what
// is made in its place later is not reached twice, nor forever.
func TestP601DropsBeyondWhatOneHas(t *testing.T) {
	a := filled(t, 3, node(1), node(2, 1))
	tell(t, "Drops", []any{a.Drop(1), a.Drop(1), a.Drop(1), a.Pending(), a.Reach(2)}, []any{0, 0, api.ErrHandle, 1, []int{2}})
	tell(t, "freed", []int{a.Work(9), a.Used()}, []int{1, 1})
	h, e := a.Make(node(2, 2))
	tell(t, "made anew", []any{h, e, a.Reach(1), a.Reach(2)}, []any{1, 0, []int{1, 2}, []int{1, 2}})
	tell(t, "gone", []any{a.Drop(1), a.Work(9), a.Used(), a.Count(2)}, []any{0, 1, 1, 1})
	tell(t, "gone too", []any{a.Drop(2), a.Work(9), a.Used(), a.Pending()}, []any{0, 1, 0, 0})
}

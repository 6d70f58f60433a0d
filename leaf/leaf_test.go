package leaf

import (
	"fmt"
	"math"
	"math/rand"
	"slices"
	"testing"

	"scrinium/api"
)

// far are places that no leaf has, up to the ends of int.
func far() []int {
	return []int{-1, -2, -63, -64, -65, 65, 66, 127, 128, 129, 1 << 16, 1 << 32, math.MaxInt32, math.MinInt32, math.MaxInt, math.MaxInt - 1, math.MinInt, math.MinInt + 1}
}

// places are those that a leaf may have, its ends, and those far off.
func places() []int {
	l := far()
	for i := 0; i <= api.Word; i++ {
		l = append(l, i)
	}
	return l
}

// of is the leaf of a list of bits.
func of(l []bool) Leaf {
	x := Leaf{N: len(l)}
	for i, one := range l {
		if one {
			x.Bits += 1 << i
		}
	}
	return x
}

// text is the list of bits of a text of 0 and 1.
func text(s string) []bool {
	var l []bool
	for _, r := range s {
		l = append(l, r == '1')
	}
	return l
}

// wrong are leaves that may not be.
func wrong() []Leaf {
	l := []Leaf{{Bits: 1}, {Bits: 1 << 63}, {Bits: math.MaxUint64}, {Bits: 8, N: 3}, {Bits: 2, N: 1}, {Bits: 1 << 63, N: 63}, {Bits: math.MaxUint64, N: 63}}
	for _, n := range far() {
		l = append(l, Leaf{N: n}, Leaf{Bits: 1, N: n}, Leaf{Bits: math.MaxUint64, N: n})
	}
	return l
}

// drawn are lists of bits of every length a leaf may have: of 0 alone, of 1 alone, of one and the other in turn, and several by chance.
func drawn() [][]bool {
	chance := rand.New(rand.NewSource(7))
	var all [][]bool
	for n := 0; n <= api.Word; n++ {
		for _, draw := range []func(i int) bool{
			func(int) bool { return false },
			func(int) bool { return true },
			func(i int) bool { return i%2 == 0 },
			func(i int) bool { return i == n-1 },
			func(int) bool { return chance.Intn(2) == 0 },
			func(int) bool { return chance.Intn(8) == 0 },
			func(int) bool { return chance.Intn(8) != 0 },
		} {
			l := make([]bool, n)
			for i := range l {
				l[i] = draw(i)
			}
			all = append(all, l)
		}
	}
	return all
}

func tell(t *testing.T, what string, got, want any) {
	t.Helper()
	if g, w := fmt.Sprint(got), fmt.Sprint(want); g != w {
		t.Errorf("%s: %s, not %s", what, g, w)
	}
}

// pair is what a call answers that tells a leaf and whether it could.
type pair struct {
	l  Leaf
	is bool
}

func insert(l Leaf, i int, one bool) pair { x, is := Insert(l, i, one); return pair{x, is} }
func remove(l Leaf, i int) pair           { x, is := Delete(l, i); return pair{x, is} }
func join(a, b Leaf) pair                 { x, is := Join(a, b); return pair{x, is} }

func split(l Leaf, i int) [2]Leaf { a, b := Split(l, i); return [2]Leaf{a, b} }

// plainRank counts bit by bit.
func plainRank(l []bool, i int) int {
	n := 0
	for j, one := range l {
		if j < i && one {
			n++
		}
	}
	return n
}

// plainSelect looks bit by bit.
func plainSelect(l []bool, one bool, k int) int {
	for i, is := range l {
		if is == one && k == 0 {
			return i
		}
		if is == one {
			k--
		}
	}
	return -1
}

func plainInsert(l []bool, i int, one bool) pair {
	if i < 0 || i > len(l) || len(l) == api.Word {
		return pair{}
	}
	return pair{of(slices.Insert(slices.Clone(l), i, one)), true}
}

func plainDelete(l []bool, i int) pair {
	if i < 0 || i >= len(l) {
		return pair{}
	}
	return pair{of(slices.Delete(slices.Clone(l), i, i+1)), true}
}

func plainSplit(l []bool, i int) [2]Leaf {
	if i < 0 {
		i = 0
	}
	if i > len(l) {
		i = len(l)
	}
	return [2]Leaf{of(l[:i]), of(l[i:])}
}

func TestP701TheExample(t *testing.T) {
	tell(t, "Insert of 1 into nothing", insert(Leaf{}, 0, true), pair{Leaf{Bits: 1, N: 1}, true})
}

func TestP701TheBit0IsTheLowest(t *testing.T) {
	l := Leaf{Bits: 1, N: 3}
	tell(t, "Get of 100", []bool{Get(l, 0), Get(l, 1), Get(l, 2)}, []bool{true, false, false})
	tell(t, "Insert at the end", insert(l, 3, true), pair{Leaf{Bits: 9, N: 4}, true})
	tell(t, "Insert at the beginning", insert(l, 0, false), pair{Leaf{Bits: 2, N: 4}, true})
	tell(t, "Delete of the first", remove(l, 0), pair{Leaf{Bits: 0, N: 2}, true})
	tell(t, "Split", split(Leaf{Bits: 6, N: 3}, 2), [2]Leaf{{Bits: 2, N: 2}, {Bits: 1, N: 1}})
	tell(t, "Join", join(l, Leaf{Bits: 1, N: 1}), pair{Leaf{Bits: 9, N: 4}, true})
}

func TestP701Right(t *testing.T) {
	for _, l := range drawn() {
		if !Right(of(l)) {
			t.Errorf("Right(%v) is false", of(l))
		}
	}
	for n := 0; n <= api.Word; n++ {
		for i := 0; i < 64; i++ {
			if l := (Leaf{Bits: 1 << i, N: n}); Right(l) != (i < n) {
				t.Errorf("Right(%v): %v", l, Right(l))
			}
		}
	}
	for _, l := range wrong() {
		if Right(l) {
			t.Errorf("Right(%v) is true", l)
		}
	}
}

func TestP701OfOneThatIsNotRight(t *testing.T) {
	for _, l := range wrong() {
		what := fmt.Sprintf("of %v", l)
		for _, i := range append(places(), l.N, l.N-1, l.N+1) {
			tell(t, what, []any{Get(l, i), Rank(l, i), Select(l, true, i), Select(l, false, i)}, []any{false, 0, -1, -1})
			tell(t, what, []any{insert(l, i, true), insert(l, i, false), remove(l, i), split(l, i)}, []any{pair{}, pair{}, pair{}, [2]Leaf{}})
		}
		for _, r := range []Leaf{{}, {Bits: 1, N: 1}, {Bits: math.MaxUint64, N: 64}, l} {
			tell(t, what, []any{join(l, r), join(r, l)}, []any{pair{}, pair{}})
		}
	}
}

func TestP701OfAnEmptyOne(t *testing.T) {
	for _, i := range places() {
		l := Leaf{}
		tell(t, fmt.Sprint("of nothing, ", i), []any{Get(l, i), Rank(l, i), Select(l, true, i), Select(l, false, i), remove(l, i), split(l, i), insert(l, i, true).is}, []any{false, 0, -1, -1, pair{}, [2]Leaf{}, i == 0})
	}
	tell(t, "Join of nothing", join(Leaf{}, Leaf{}), pair{is: true})
}

func TestP701OfAFullOne(t *testing.T) {
	full := Leaf{Bits: math.MaxUint64, N: api.Word}
	tell(t, "of a full one", []any{Right(full), Get(full, 63), Get(full, 64), Rank(full, 64), Rank(full, 65), Rank(full, 63), Select(full, true, 63), Select(full, true, 64), Select(full, false, 0)}, []any{true, true, false, 64, 64, 63, 63, -1, -1})
	for i := 0; i <= api.Word; i++ {
		tell(t, fmt.Sprint("Insert into a full one, ", i), []pair{insert(full, i, true), insert(full, i, false)}, []pair{{}, {}})
	}
	tell(t, "Delete", []pair{remove(full, 0), remove(full, 63), remove(full, 64)}, []pair{{Leaf{math.MaxUint64 >> 1, 63}, true}, {Leaf{math.MaxUint64 >> 1, 63}, true}, {}})
	tell(t, "Split", [][2]Leaf{split(full, 64), split(full, 0)}, [][2]Leaf{{full, {}}, {{}, full}})
	tell(t, "Join", []pair{join(full, Leaf{}), join(Leaf{}, full), join(full, Leaf{N: 1}), join(Leaf{N: 1}, full), join(full, full)}, []pair{{full, true}, {full, true}, {}, {}, {}})
}

func TestP701ByHand(t *testing.T) {
	l := of(text("0110100"))
	tell(t, "Get", []bool{Get(l, 0), Get(l, 1), Get(l, 6), Get(l, 7), Get(l, -1)}, []bool{false, true, false, false, false})
	tell(t, "Rank", []int{Rank(l, -1), Rank(l, 0), Rank(l, 1), Rank(l, 2), Rank(l, 7), Rank(l, 8)}, []int{0, 0, 0, 1, 3, 3})
	tell(t, "Select of 1", []int{Select(l, true, -1), Select(l, true, 0), Select(l, true, 1), Select(l, true, 2), Select(l, true, 3)}, []int{-1, 1, 2, 4, -1})
	tell(t, "Select of 0", []int{Select(l, false, -1), Select(l, false, 0), Select(l, false, 1), Select(l, false, 3), Select(l, false, 4)}, []int{-1, 0, 3, 6, -1})
	tell(t, "Insert", insert(l, 3, true), pair{of(text("01110100")), true})
	tell(t, "Delete", remove(l, 3), pair{of(text("011100")), true})
	tell(t, "Split", split(l, 3), [2]Leaf{of(text("011")), of(text("0100"))})
	tell(t, "Join", join(l, of(text("11"))), pair{of(text("011010011")), true})
}

func TestP701AsOfAListOfBits(t *testing.T) {
	for _, l := range drawn() {
		x := of(l)
		for _, i := range places() {
			what := fmt.Sprintf("of %v, %d", x, i)
			tell(t, "Get "+what, Get(x, i), i >= 0 && i < len(l) && l[i])
			tell(t, "Rank "+what, Rank(x, i), plainRank(l, i))
			tell(t, "Delete "+what, remove(x, i), plainDelete(l, i))
			tell(t, "Split "+what, split(x, i), plainSplit(l, i))
			for _, one := range []bool{false, true} {
				tell(t, "Select "+what, Select(x, one, i), plainSelect(l, one, i))
				tell(t, "Insert "+what, insert(x, i, one), plainInsert(l, i, one))
			}
		}
	}
}

func TestP701JoinAsOfLists(t *testing.T) {
	all := drawn()
	for _, a := range all {
		for _, b := range all {
			want := pair{}
			if len(a)+len(b) <= api.Word {
				want = pair{of(slices.Concat(a, b)), true}
			}
			if got := join(of(a), of(b)); got != want {
				t.Fatalf("Join(%v, %v): %v, not %v", of(a), of(b), got, want)
			}
		}
	}
}

func TestP701WhatIsToldIsRight(t *testing.T) {
	chance := rand.New(rand.NewSource(701))
	x, l := Leaf{}, []bool(nil)
	for range 20000 {
		i, one := chance.Intn(api.Word+4)-2, chance.Intn(2) == 0
		got, want := insert(x, i, one), plainInsert(l, i, one)
		if chance.Intn(20) < 9 {
			got, want = remove(x, i), plainDelete(l, i)
		}
		if got != want || !Right(got.l) {
			t.Fatalf("of %v, %d: %v, not %v", x, i, got, want)
		}
		if !got.is {
			continue
		}
		x, l = got.l, nil
		for j := range x.N {
			l = append(l, Get(x, j))
		}
	}
}

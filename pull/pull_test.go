package pull

import (
	"fmt"
	"math"
	"math/rand"
	"slices"
	"strings"
	"testing"

	"scrinium/api"
	"scrinium/arena"
	"scrinium/bits"
	"scrinium/cut"
	"scrinium/list"
	"scrinium/put"
	"scrinium/version"
	"scrinium/wave"
)

// plain is a version, or what is half made of one, as lists: what its wave, its marks, its spots and its table have.
type plain struct {
	symbols []int
	marks   []bool
	spots   []list.Item
	table   []list.Item
}

// far are numbers that are no handle, up to the ends of int.
func far() []int {
	return []int{-1, -2, -64, api.MaxNodes + 1, 1 << 20, math.MaxInt32, math.MinInt32, math.MaxInt - 1, math.MaxInt, math.MinInt, math.MinInt + 1}
}

func tell(t *testing.T, what string, got, want any) {
	t.Helper()
	if g, w := fmt.Sprint(got), fmt.Sprint(want); g != w {
		t.Errorf("%s: %s, not %s", what, g, w)
	}
}

// collections are documents of every kind: one, empty ones, alike ones, such with all bytes' ends, as many and as long ones as
// may be.
func collections() [][]api.Doc {
	many := make([]api.Doc, api.MaxDocs)
	for i := range many {
		many[i] = api.Doc{Id: 2*i + 1, Text: strings.Repeat("ab"[i%2:i%2+1]+"na", 14)[:api.MaxText-3*i]}
	}
	return [][]api.Doc{
		{{Id: 1, Text: ""}},
		{{Id: 7, Text: "a"}},
		{{Id: 4, Text: "banana"}},
		{{Id: 5, Text: "banana"}, {Id: 2, Text: ""}, {Id: 9, Text: "nan"}},
		{{Id: 2, Text: "x"}, {Id: 1, Text: "x"}, {Id: 3, Text: "x"}},
		{{Id: 6, Text: ""}, {Id: 4, Text: ""}},
		{{Id: math.MaxInt, Text: "\x00\xff\x00"}, {Id: 1, Text: "\xff\xfe\x01\x00"}, {Id: 2, Text: "\x00"}},
		{{Id: 8, Text: "mississippi misses missus"}, {Id: 6, Text: strings.Repeat("a", api.MaxText)}, {Id: 7, Text: "aaa"}},
		many,
	}
}

// suffix is one by a key of whole numbers.
type suffix struct {
	key     []int
	doc, at int
}

// sorted are the suffixes of documents.
func sorted(docs ...api.Doc) []suffix {
	var all []suffix
	for doc, d := range docs {
		for at := 0; at <= len(d.Text); at++ {
			var key []int
			for _, b := range []byte(d.Text[at:]) {
				key = append(key, 1000+int(b))
			}
			all = append(all, suffix{append(key, doc), doc, at})
		}
	}
	slices.SortFunc(all, func(x, y suffix) int { return slices.Compare(x.key, y.key) })
	return all
}

// listsOf tells the lists of documents, every so many places marked.
func listsOf(rate int, docs ...api.Doc) plain {
	var l plain
	for _, x := range sorted(docs...) {
		d, s := docs[x.doc], 0
		if x.at > 0 {
			s = int(d.Text[x.at-1]) + 1
		}
		l.symbols = append(l.symbols, s)
		l.marks = append(l.marks, x.at%rate == 0)
		if x.at%rate == 0 {
			l.spots = append(l.spots, list.Item{A: d.Id, B: x.at})
		}
	}
	for _, d := range docs {
		l.table = append(l.table, list.Item{A: d.Id, B: len(d.Text)})
	}
	return l
}

// built makes a version of lists, which has one count, for who asked, and its parts none but its own.
func built(t *testing.T, a *arena.Arena, l plain) int {
	t.Helper()
	p := version.Parts{
		Wave:  grown(t, a, l.symbols, wave.Insert),
		Marks: grown(t, a, l.marks, bits.Insert),
		Spots: grown(t, a, l.spots, list.Insert),
		Table: grown(t, a, l.table, list.Insert),
	}
	h, e := version.Make(a, p)
	if e != api.OK {
		t.Fatalf("Make(%v): %d", p, e)
	}
	drop(a, p.Wave, p.Marks, p.Spots, p.Table)
	return h
}

func grown[T any](t *testing.T, a *arena.Arena, l []T, insert func(*arena.Arena, int, int, T) (int, api.Errno)) int {
	t.Helper()
	h := 0
	for i, x := range l {
		g, e := insert(a, h, i, x)
		if e != api.OK {
			t.Fatalf("insert at %d: %d", i, e)
		}
		drop(a, h)
		h = g
	}
	return h
}

func drop(a *arena.Arena, l ...int) {
	for _, h := range l {
		a.Drop(h)
	}
	a.Work(api.MaxNodes)
}

func node(t *testing.T, a *arena.Arena, n api.Node) int {
	t.Helper()
	h, e := a.Make(n)
	if e != api.OK {
		t.Fatalf("Make(%v): %d", n, e)
	}
	return h
}

func counts(a *arena.Arena) []int {
	var l []int
	for h := 1; h <= a.Size(); h++ {
		l = append(l, a.Count(h))
	}
	return l
}

func partsOf(a *arena.Arena, h int) version.Parts {
	v, _ := version.Of(a, h)
	return v
}

// ended does all Steps.
func ended(t *testing.T, a *arena.Arena, e api.Errno, step func() (bool, api.Errno)) {
	t.Helper()
	for is := e != api.OK; !is; a.Work(api.MaxNodes) {
		is, e = step()
	}
	tell(t, "the last Step", e, api.OK)
}

// vast are parts that are below themselves again and again, each of one thing alone, 2 to the times.
func vast(t *testing.T, a *arena.Arena, symbol, times int) version.Parts {
	t.Helper()
	rowOf := func(bit uint64) int {
		row := node(t, a, api.Node{Tag: api.TagLeaf, A: bit, B: 1})
		for i := range times {
			row = node(t, a, api.Node{Tag: api.TagFork, Kids: [4]int{row, row}, A: 2 << i, B: bit * 2 << i})
		}
		return row
	}
	zeros, ones := rowOf(0), rowOf(1)
	items := node(t, a, api.Node{Tag: api.TagItem, A: 1, B: 1})
	for i := range times {
		items = node(t, a, api.Node{Tag: api.TagJoin, Kids: [4]int{items, items}, A: 2 << i})
	}
	symbols := 0
	for level := range api.Levels {
		kids := [4]int{zeros, symbols}
		if symbol>>level%2 == 1 {
			kids = [4]int{ones, 0, symbols}
		}
		symbols = node(t, a, api.Node{Tag: api.TagWave, Kids: kids})
	}
	return version.Parts{Wave: symbols, Marks: ones, Spots: items, Table: items}
}

// steps is where a text goes, from 0 on, counted by hand: right, up, left, down.
func steps(text string) complex128 {
	var n [4]int
	for _, b := range []byte(text) {
		n[b%4]++
	}
	return complex(float64(n[0]-n[2]), float64(n[1]-n[3]))
}

// same holds all that is told of a version against its documents.
func same(t *testing.T, a *arena.Arena, h int, docs ...api.Doc) {
	t.Helper()
	var ids, lens []int
	for _, d := range docs {
		s, is := Text(a, h, d.Id)
		if s != d.Text || !is {
			t.Fatalf("the text of %d in %v: %q %v", d.Id, docs, s, is)
		}
		for to := 0; to <= len(d.Text); to += 1 + to/5 {
			for from := 0; from <= to; from += 1 + from/3 {
				if s, e := Part(a, h, d.Id, from, to); s != d.Text[from:to] || e != api.OK {
					t.Fatalf("%d from %d up to %d: %q %d", d.Id, from, to, s, e)
				}
			}
			z, e := Plot(a, h, d.Id, to)
			if z != steps(d.Text[:to]) || e != api.OK || signed(z) {
				t.Fatalf("the first %d bytes of %q: %v %d", to, d.Text, z, e)
			}
		}
		ids, lens = append(ids, d.Id), append(lens, len(d.Text))
	}
	all := Docs(a, h)
	x, y := Lens(a, h)
	if !slices.Equal(all, docs) || !slices.Equal(x, ids) || !slices.Equal(y, lens) {
		t.Fatalf("%v: %v, %v, %v", docs, all, x, y)
	}
}

// signed tells whether a part is -0.
func signed(z complex128) bool {
	re, im := real(z), imag(z)
	return re == 0 && math.Signbit(re) || im == 0 && math.Signbit(im)
}

// missing holds what is told of a document that is not there, of whatever part of it.
func missing(t *testing.T, what string, a *arena.Arena, h, id int) {
	t.Helper()
	s, is := Text(a, h, id)
	tell(t, fmt.Sprint(what, ": Text of ", id), []any{s, is}, []any{"", false})
	for _, x := range [][]int{{0, 0}, {0, 1}, {1, 0}, {-1, 3}, {0, 100}, {math.MinInt, math.MaxInt}} {
		s, e := Part(a, h, id, x[0], x[1])
		z, f := Plot(a, h, id, x[1])
		tell(t, fmt.Sprint(what, ": Part, Plot of ", id, x), []any{s, e, z, f, signed(z)}, []any{"", api.ErrNone, complex128(0), api.ErrNone, false})
	}
}

// nothing holds what is told of what has no documents.
func nothing(t *testing.T, what string, a *arena.Arena, h int) {
	t.Helper()
	ids, lens := Lens(a, h)
	tell(t, what+": Docs, Lens", []int{len(Docs(a, h)), len(ids), len(lens)}, []int{0, 0, 0})
	for _, id := range append(far(), 0, 1, 4, 5) {
		missing(t, what, a, h, id)
	}
}

func TestP1601TheExample(t *testing.T) {
	a := arena.New(1000)
	h := built(t, a, listsOf(2, api.Doc{Id: 7, Text: "aba"}))
	z, e := Plot(a, h, 7, 0)
	tell(t, "Plot of the first 0 bytes", []any{z, e, signed(z)}, []any{complex128(0), api.OK, false})
}

func TestP1601ByHand(t *testing.T) {
	a := arena.New(1000)
	h := built(t, a, listsOf(2, api.Doc{Id: 7, Text: "\x00\x01\x02\x03a"}, api.Doc{Id: 4, Text: ""}, api.Doc{Id: 5, Text: "\xff\xfe"}))
	for _, x := range []struct {
		id   int
		text string
		is   bool
	}{{7, "\x00\x01\x02\x03a", true}, {4, "", true}, {5, "\xff\xfe", true}, {6, "", false}, {0, "", false}} {
		s, is := Text(a, h, x.id)
		tell(t, fmt.Sprint("Text of ", x.id), []any{s, is}, []any{x.text, x.is})
	}
	for _, x := range []struct {
		id, from, to int
		text         string
		e            api.Errno
	}{
		{7, 0, 5, "\x00\x01\x02\x03a", api.OK}, {7, 1, 3, "\x01\x02", api.OK}, {7, 4, 5, "a", api.OK}, {7, 5, 5, "", api.OK}, {7, 0, 0, "", api.OK},
		{7, 0, 6, "", api.ErrRange}, {7, 6, 6, "", api.ErrRange}, {7, 3, 2, "", api.ErrRange}, {7, -1, 2, "", api.ErrRange}, {7, -2, -1, "", api.ErrRange},
		{4, 0, 0, "", api.OK}, {4, 0, 1, "", api.ErrRange}, {4, 1, 1, "", api.ErrRange}, {5, 1, 2, "\xfe", api.OK}, {6, 0, 0, "", api.ErrNone}, {6, 5, 1, "", api.ErrNone},
	} {
		s, e := Part(a, h, x.id, x.from, x.to)
		tell(t, fmt.Sprint("Part of ", x.id, x.from, x.to), []any{s, e}, []any{x.text, x.e})
	}
	for to, want := range []complex128{0, 1, 1 + 1i, 1i, 0, 1i} {
		z, e := Plot(a, h, 7, to)
		tell(t, fmt.Sprint("Plot of the first ", to), []any{z, e, signed(z)}, []any{want, api.OK, false})
	}
	z, e := Plot(a, h, 5, 2)
	tell(t, "Plot of 5", []any{z, e}, []any{-1 - 1i, api.OK})
	ids, lens := Lens(a, h)
	tell(t, "Docs, Lens", []any{Docs(a, h), ids, lens}, []any{[]api.Doc{{Id: 7, Text: "\x00\x01\x02\x03a"}, {Id: 4}, {Id: 5, Text: "\xff\xfe"}}, []int{7, 4, 5}, []int{5, 0, 2}})
}

// TestP1601EachPart: each part that there is, and where the walk is behind each byte.
func TestP1601EachPart(t *testing.T) {
	docs := append(collections()[3], api.Doc{Id: 1, Text: "\x00\xff\x01\x02\x80\x7f\x03 scrinium"})
	a := arena.New(api.MaxNodes)
	h := built(t, a, listsOf(3, docs...))
	for _, d := range docs {
		for to := range len(d.Text) + 1 {
			for from := range to + 1 {
				s, e := Part(a, h, d.Id, from, to)
				tell(t, fmt.Sprint(d, from, to), []any{s, e}, []any{d.Text[from:to], api.OK})
			}
			z, e := Plot(a, h, d.Id, to)
			tell(t, fmt.Sprint(d, to), []any{z, e, signed(z)}, []any{steps(d.Text[:to]), api.OK, false})
		}
	}
}

func TestP1601EachRate(t *testing.T) {
	for _, docs := range collections() {
		for _, rate := range []int{1, 5, api.MaxRate} {
			a := arena.New(api.MaxNodes)
			same(t, a, built(t, a, listsOf(rate, docs...)), docs...)
		}
	}
}

func TestP1601AllBytes(t *testing.T) {
	a := arena.New(api.MaxNodes)
	docs := make([]api.Doc, 7)
	for i := range docs {
		b := make([]byte, 37)
		for k := range b {
			b[k] = byte(i*37 + k)
		}
		docs[i] = api.Doc{Id: 100 - i, Text: string(b)}
	}
	same(t, a, built(t, a, listsOf(8, docs...)), docs...)
}

// TestP1601AllSmallOnes: all lists of three texts of two bytes.
func TestP1601AllSmallOnes(t *testing.T) {
	texts := []string{"", "a", "b", "aa", "ab", "ba", "bb"}
	a := arena.New(1000)
	for n := range len(texts) * len(texts) * len(texts) {
		docs := []api.Doc{{Id: 9, Text: texts[n%7]}, {Id: 4, Text: texts[n/7%7]}, {Id: 7, Text: texts[n/49]}}
		h := built(t, a, listsOf(1+n%3, docs...))
		same(t, a, h, docs...)
		drop(a, h)
	}
}

// TestP1601ComingAndGoing: of versions that were made by the layers below, and of the ones ahead, which stay as they were.
func TestP1601ComingAndGoing(t *testing.T) {
	type one struct {
		h    int
		docs []api.Doc
	}
	r := rand.New(rand.NewSource(1601))
	for range 4 {
		a, rate := arena.New(api.MaxNodes), 1+r.Intn(api.MaxRate)
		alphabet := [][]byte{{'a', 'b'}, {0, 1, 254, 255}, {'a'}, {0, 255}}[r.Intn(4)]
		all := []one{{}}
		for id := 20; id > 0; id-- {
			now := all[len(all)-1]
			if len(now.docs) > 4 || len(now.docs) > 0 && r.Intn(3) == 0 {
				i := r.Intn(len(now.docs))
				c, e := cut.New(a, now.h, rate, now.docs[i].Id)
				ended(t, a, e, c.Step)
				missing(t, "cut", a, c.Root(), now.docs[i].Id)
				all = append(all, one{c.Root(), slices.Delete(slices.Clone(now.docs), i, i+1)})
				continue
			}
			b := make([]byte, r.Intn(20))
			for i := range b {
				b[i] = alphabet[r.Intn(len(alphabet))]
			}
			p, e := put.New(a, now.h, rate, id, string(b))
			ended(t, a, e, p.Step)
			missing(t, "not put yet", a, now.h, id)
			all = append(all, one{p.Root(), append(slices.Clone(now.docs), api.Doc{Id: id, Text: string(b)})})
		}
		for _, x := range all {
			same(t, a, x.h, x.docs...)
		}
	}
}

// TestP1601ByNextAlone: no mark and no spot is needed.
func TestP1601ByNextAlone(t *testing.T) {
	for _, docs := range collections() {
		a := arena.New(api.MaxNodes)
		l := listsOf(2, docs...)
		l.marks, l.spots = nil, nil
		same(t, a, built(t, a, l), docs...)
	}
}

// TestP1601NoSuchDocument: ErrNone ahead of ErrRange.
func TestP1601NoSuchDocument(t *testing.T) {
	for _, docs := range collections() {
		a := arena.New(api.MaxNodes)
		h := built(t, a, listsOf(4, docs...))
		for _, id := range append(far(), 0, 10, 1000) {
			if !slices.ContainsFunc(docs, func(d api.Doc) bool { return d.Id == id }) {
				missing(t, "no such document", a, h, id)
			}
		}
	}
}

func TestP1601NoSuchPart(t *testing.T) {
	for _, docs := range collections()[:8] {
		a := arena.New(api.MaxNodes)
		h := built(t, a, listsOf(4, docs...))
		for _, d := range docs {
			n := len(d.Text)
			numbers := append(far(), 0, 1, n-1, n, n+1, n+2)
			for _, to := range numbers {
				if to < 0 || to > n {
					z, e := Plot(a, h, d.Id, to)
					tell(t, fmt.Sprint("Plot up to ", to), []any{z, e, signed(z)}, []any{complex128(0), api.ErrRange, false})
				}
				for _, from := range numbers {
					if from < 0 || from > to || to > n {
						s, e := Part(a, h, d.Id, from, to)
						tell(t, fmt.Sprint("Part from ", from, " up to ", to), []any{s, e}, []any{"", api.ErrRange})
					}
				}
			}
		}
	}
}

func TestP1601WhatIsNoVersion(t *testing.T) {
	a := arena.New(3000)
	l := listsOf(2, collections()[3]...)
	h, waits, gone := built(t, a, l), built(t, a, l), built(t, a, l)
	v := partsOf(a, h)
	drop(a, gone)
	a.Drop(waits)
	other := node(t, a, api.Node{Tag: api.TagRoot, Kids: [4]int{v.Wave, v.Marks, v.Spots, v.Table}, A: 1})
	another := node(t, a, api.Node{Tag: api.TagRoot, Kids: [4]int{v.Wave, v.Marks, v.Spots, v.Table}, B: 1})
	for _, h := range append(far(), 0, v.Wave, v.Marks, v.Spots, v.Table, waits, gone, other, another, a.Size(), a.Size()+1) {
		nothing(t, fmt.Sprint("the root ", h), a, h)
	}
	for what, none := range map[string]*arena.Arena{"nil": nil, "zero": {}} {
		for _, h := range append(far(), 0, 1, h) {
			nothing(t, what+" arena", none, h)
		}
	}
}

// TestP1601NothingIsMade: nothing is made, kept or dropped, and none is needed.
func TestP1601NothingIsMade(t *testing.T) {
	for _, docs := range collections() {
		a := arena.New(api.MaxNodes)
		h := built(t, a, listsOf(3, docs...))
		for a.Used() < a.Size() {
			node(t, a, api.Node{Tag: api.TagLeaf, A: 1, B: 1})
		}
		was, made := counts(a), a.Made()
		same(t, a, h, docs...)
		missing(t, "nothing is made", a, h, 1000)
		tell(t, "the counts", []any{slices.Equal(counts(a), was), a.Made() - made, a.Pending()}, []any{true, 0, 0})
	}
}

// TestP1601ListsAreNew: who writes into what was told changes nothing, neither what is told later nor the other list.
func TestP1601ListsAreNew(t *testing.T) {
	a := arena.New(1000)
	docs := collections()[3]
	h := built(t, a, listsOf(2, docs...))
	all := Docs(a, h)
	ids, lens := Lens(a, h)
	for i := range all {
		all[i] = api.Doc{}
	}
	for _, l := range [][]int{ids, lens, lens, ids} {
		l = append(l, -2, -2, -2, -2)
		for i := range l {
			l[i] = -1
		}
	}
	same(t, a, h, docs...)
	ids, lens = Lens(a, h)
	_ = append(ids, -1, -1, -1, -1, -1)
	ids[0], ids[1], ids[2] = -1, -1, -1
	tell(t, "the other list", lens, []int{6, 0, 3})
}

// TestP1601LengthsThatDoNotFit: there is no text of a length that is not just the way's.
func TestP1601LengthsThatDoNotFit(t *testing.T) {
	a := arena.New(1000)
	docs := []api.Doc{{Id: 5, Text: "banana"}, {Id: 2, Text: ""}, {Id: 9, Text: "\x00an"}, {Id: 4, Text: "\x00\x00"}}
	for i, d := range docs {
		for _, length := range append(far(), len(d.Text)-1, len(d.Text)+1, api.MaxText, api.MaxText+1) {
			if length < 0 {
				continue // no list has it
			}
			l := listsOf(2, docs...)
			l.table[i].B = length
			h := built(t, a, l)
			missing(t, fmt.Sprint("of length ", length), a, h, d.Id)
			ids, lens := Lens(a, h)
			tell(t, "Lens, Docs", []any{ids, lens[i], Docs(a, h)}, []any{[]int{5, 2, 9, 4}, length, slices.Delete(slices.Clone(docs), i, i+1)})
			drop(a, h)
		}
	}
}

// TestP1601RowsThatDoNotFit: a document that has no terminator's row has no text, wherever the way from its row goes; nor has
// one that is longer than may be.
func TestP1601RowsThatDoNotFit(t *testing.T) {
	a := arena.New(1000)
	l := listsOf(2, api.Doc{Id: 5, Text: "ab"}) // the rows: the end, ab, b
	l.table = append(l.table, list.Item{A: 6, B: 0}, list.Item{A: 7, B: 1}, list.Item{A: 8, B: 0}, list.Item{A: 5, B: 2})
	h := built(t, a, l)
	for id := 6; id < 10; id++ {
		missing(t, "no terminator's row", a, h, id)
	}
	ids, lens := Lens(a, h)
	tell(t, "Docs, Lens", []any{Docs(a, h), ids, lens}, []any{[]api.Doc{{Id: 5, Text: "ab"}}, []int{5, 6, 7, 8, 5}, []int{2, 0, 1, 0, 2}})
	l = listsOf(2, api.Doc{Id: 5, Text: "\x00\x00"})
	l.table = append(l.table, list.Item{A: 6, B: 1}, list.Item{A: 7, B: 0})
	h = built(t, a, l)
	missing(t, "no terminator's row", a, h, 6)
	missing(t, "no terminator's row", a, h, 7)
	for n := api.MaxText; n <= api.MaxText+1; n++ {
		symbols := append(slices.Repeat([]int{98}, n), 0)
		h := built(t, a, plain{symbols: symbols, table: []list.Item{{A: 4, B: n}}})
		if n > api.MaxText {
			missing(t, "too long", a, h, 4)
			continue
		}
		same(t, a, h, api.Doc{Id: 4, Text: strings.Repeat("a", n)})
	}
	// Round and round: there is no end of it.
	missing(t, "round and round", a, built(t, a, plain{symbols: []int{98}, table: []list.Item{{A: 4, B: 3}}}), 4)
	missing(t, "round and round", a, built(t, a, plain{symbols: []int{98}, table: []list.Item{{A: 4, B: 0}}}), 4)
	missing(t, "nothing but a table", a, built(t, a, plain{table: []list.Item{{A: 4, B: 0}}}), 4)
	nothing(t, "no table", a, built(t, a, plain{symbols: []int{98, 0}}))
}

// TestP1601TheSameNumberTwice: Text tells of the first one, Docs and Lens of both.
func TestP1601TheSameNumberTwice(t *testing.T) {
	a := arena.New(1000)
	docs := []api.Doc{{Id: 5, Text: "xa"}, {Id: 5, Text: "b"}}
	h := built(t, a, listsOf(2, docs...))
	s, is := Text(a, h, 5)
	ids, lens := Lens(a, h)
	tell(t, "twice", []any{s, is, Docs(a, h), ids, lens}, []any{"xa", true, docs, []int{5, 5}, []int{2, 1}})
}

// long is a list of n items, parts of which are below it again and again.
func long(t *testing.T, a *arena.Arena, n int) int {
	t.Helper()
	if n == 1 {
		return node(t, a, api.Node{Tag: api.TagItem, A: 1, B: 1})
	}
	first := long(t, a, n/2)
	second := first
	if n%2 == 1 {
		second = long(t, a, n-n/2)
	}
	return node(t, a, api.Node{Tag: api.TagJoin, Kids: [4]int{first, second}, A: uint64(n)})
}

// TestP1601TablesThatAreNone: one that is not whole, or more than anybody can look at, is as empty.
func TestP1601TablesThatAreNone(t *testing.T) {
	a := arena.New(api.MaxNodes)
	v := partsOf(a, built(t, a, listsOf(2, collections()[3]...)))
	for times, n := range map[int]int{3: 8, 12: 4096, 13: 0, 40: 0, 60: 0} {
		v.Table = vast(t, a, 98, times).Table
		h, _ := version.Make(a, v)
		ids, lens := Lens(a, h)
		tell(t, fmt.Sprint("2 to the ", times), []int{len(ids), len(lens), len(Docs(a, h))}, []int{n, n, 0})
		missing(t, fmt.Sprint("2 to the ", times), a, h, 2)
	}
	for n := api.MaxNodes - 1; n <= api.MaxNodes+1; n++ {
		v.Table = long(t, a, n)
		h, _ := version.Make(a, v)
		ids, lens := Lens(a, h)
		want := n
		if n > api.MaxNodes {
			want = 0
		}
		tell(t, fmt.Sprint(n), []int{len(ids), len(lens), len(Docs(a, h))}, []int{want, want, 0})
	}
	table := partsOf(a, built(t, a, listsOf(2, collections()[3]...))).Table
	broken := node(t, a, api.Node{Tag: api.TagJoin, Kids: [4]int{table, v.Wave}, A: 4})
	for _, n := range []api.Node{
		{Tag: api.TagJoin, Kids: [4]int{table, broken}, A: 7},
		{Tag: api.TagJoin, Kids: [4]int{broken, table}, A: 7},
		{Tag: api.TagJoin, Kids: [4]int{table, v.Wave}, A: 4},
		{Tag: api.TagJoin, Kids: [4]int{table, table}, A: 4},
		{Tag: api.TagJoin, Kids: [4]int{v.Table, table}, A: 5},
		{Tag: api.TagJoin, Kids: [4]int{v.Wave, v.Wave}, A: math.MaxUint64},
		{Tag: api.TagWave, Kids: [4]int{v.Wave}},
	} {
		v.Table = node(t, a, n)
		h, _ := version.Make(a, v)
		nothing(t, fmt.Sprint(n), a, h)
	}
}

// TestP1601OddRoots: roots that somebody put together of what does not fit.
func TestP1601OddRoots(t *testing.T) {
	a := arena.New(api.MaxNodes)
	docs := collections()[3]
	v := partsOf(a, built(t, a, listsOf(2, docs...)))
	small := partsOf(a, built(t, a, listsOf(2, docs[:1]...)))
	many := vast(t, a, 0, 40)
	endless := vast(t, a, 98, 40)
	choices := []int{0, v.Wave, v.Marks, v.Table, small.Wave, small.Table, many.Wave, many.Marks, many.Table, endless.Wave}
	for n := range 100 {
		p := version.Parts{Wave: choices[n%10], Table: choices[n/10]}
		h, _ := version.Make(a, p)
		ids, lens := Lens(a, h)
		all := Docs(a, h)
		if len(ids) != len(lens) || len(all) > len(ids) {
			t.Fatalf("%v: %v %v %v", p, all, ids, lens)
		}
		switch {
		case p.Wave == v.Wave && p.Table == v.Table:
			same(t, a, h, docs...)
		case p.Wave == small.Wave && p.Table == small.Table:
			same(t, a, h, docs[:1]...)
		case p.Wave == many.Wave && p.Table == v.Table:
			tell(t, "nothing but terminators", all, docs[1:2])
		case p.Wave == v.Wave && p.Table == small.Table, p.Wave == small.Wave && p.Table == v.Table:
			tell(t, "one document too few", all, docs[:1])
		default:
			tell(t, fmt.Sprint(p, ": Docs"), all, []api.Doc{})
		}
		drop(a, h)
	}
}

// TestP1601FalseNodes: what turns out to be none further down is as empty, and each call ends.
func TestP1601FalseNodes(t *testing.T) {
	a := arena.New(api.MaxNodes)
	docs := collections()[3]
	v := partsOf(a, built(t, a, listsOf(2, docs...)))
	top, _ := a.Get(v.Wave)
	was := v
	for _, n := range []api.Node{
		{Tag: api.TagWave, Kids: [4]int{v.Marks}},
		{Tag: api.TagWave, Kids: [4]int{v.Marks, v.Wave, v.Wave}},
		{Tag: api.TagWave, Kids: [4]int{top.Kids[0], top.Kids[1], top.Kids[1]}},
		{Tag: api.TagWave, Kids: [4]int{top.Kids[0], 0, top.Kids[2]}},
		{Tag: api.TagWave, Kids: [4]int{top.Kids[0]}},
		{Tag: api.TagFork, Kids: [4]int{v.Marks, v.Marks}, A: 25, B: 7},
		{Tag: api.TagLeaf, A: 1 << 63, B: 3},
		{Tag: api.TagRoot, Kids: [4]int{v.Wave, v.Marks, v.Spots, v.Table}},
	} {
		v.Wave = node(t, a, n)
		h, _ := version.Make(a, v)
		for _, d := range docs {
			s, is := Text(a, h, d.Id)
			if (is && len(s) != len(d.Text)) || (!is && s != "") {
				t.Fatalf("%v: %q %v", n, s, is)
			}
		}
		ids, _ := Lens(a, h)
		if all := Docs(a, h); len(all) > len(docs) || !slices.Equal(ids, []int{5, 2, 9}) {
			t.Fatalf("%v: %v %v", n, all, ids)
		}
		v = was
	}
	h, _ := version.Make(a, v)
	same(t, a, h, docs...)
}

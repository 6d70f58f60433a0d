package find

import (
	"fmt"
	"math"
	"math/rand"
	"slices"
	"strings"
	"testing"

	"scrinium/api"
	"scrinium/arena"
	"scrinium/back"
	"scrinium/bits"
	"scrinium/cut"
	"scrinium/list"
	"scrinium/put"
	"scrinium/rows"
	"scrinium/version"
	"scrinium/wave"
)

// plain is a version, or what is half made of one, as lists: what its wave, its marks, its spots and its table have.
type plain struct {
	symbols []int
	marks   []bool
	spots   []list.Item
	table   []list.Item
}

// far are numbers that are no handle, up to the ends of int.
func far() []int {
	return []int{-1, -2, -64, api.MaxNodes + 1, 1 << 20, math.MaxInt32, math.MinInt32, math.MaxInt - 1, math.MaxInt, math.MinInt, math.MinInt + 1}
}

func tell(t *testing.T, what string, got, want any) {
	t.Helper()
	if g, w := fmt.Sprint(got), fmt.Sprint(want); g != w {
		t.Errorf("%s: %s, not %s", what, g, w)
	}
}

// collections are documents of every kind: one, empty ones, alike ones, such with all bytes' ends, as many and as long ones as
// may be.
func collections() [][]api.Doc {
	many := make([]api.Doc, api.MaxDocs)
	for i := range many {
		many[i] = api.Doc{Id: 2*i + 1, Text: strings.Repeat("ab"[i%2:i%2+1]+"na", 14)[:api.MaxText-3*i]}
	}
	return [][]api.Doc{
		{{Id: 1, Text: ""}},
		{{Id: 7, Text: "a"}},
		{{Id: 4, Text: "banana"}},
		{{Id: 5, Text: "banana"}, {Id: 2, Text: ""}, {Id: 9, Text: "nan"}},
		{{Id: 2, Text: "x"}, {Id: 1, Text: "x"}, {Id: 3, Text: "x"}},
		{{Id: 6, Text: ""}, {Id: 4, Text: ""}},
		{{Id: math.MaxInt, Text: "\x00\xff\x00"}, {Id: 1, Text: "\xff\xfe\x01\x00"}, {Id: 2, Text: "\x00"}},
		{{Id: 8, Text: "mississippi misses missus"}, {Id: 6, Text: strings.Repeat("a", api.MaxText)}, {Id: 7, Text: "aaa"}},
		many,
	}
}

// suffix is one by a key of whole numbers.
type suffix struct {
	key     []int
	doc, at int
}

// sorted are the suffixes of documents.
func sorted(docs ...api.Doc) []suffix {
	var all []suffix
	for doc, d := range docs {
		for at := 0; at <= len(d.Text); at++ {
			var key []int
			for _, b := range []byte(d.Text[at:]) {
				key = append(key, 1000+int(b))
			}
			all = append(all, suffix{append(key, doc), doc, at})
		}
	}
	slices.SortFunc(all, func(x, y suffix) int { return slices.Compare(x.key, y.key) })
	return all
}

// listsOf tells the lists of documents, every so many places marked.
func listsOf(rate int, docs ...api.Doc) plain {
	var l plain
	for _, x := range sorted(docs...) {
		d, s := docs[x.doc], 0
		if x.at > 0 {
			s = int(d.Text[x.at-1]) + 1
		}
		l.symbols = append(l.symbols, s)
		l.marks = append(l.marks, x.at%rate == 0)
		if x.at%rate == 0 {
			l.spots = append(l.spots, list.Item{A: d.Id, B: x.at})
		}
	}
	for _, d := range docs {
		l.table = append(l.table, list.Item{A: d.Id, B: len(d.Text)})
	}
	return l
}

// built makes a version of lists, which has one count, for who asked, and its parts none but its own.
func built(t *testing.T, a *arena.Arena, l plain) int {
	t.Helper()
	p := version.Parts{
		Wave:  grown(t, a, l.symbols, wave.Insert),
		Marks: grown(t, a, l.marks, bits.Insert),
		Spots: grown(t, a, l.spots, list.Insert),
		Table: grown(t, a, l.table, list.Insert),
	}
	h, e := version.Make(a, p)
	if e != api.OK {
		t.Fatalf("Make(%v): %d", p, e)
	}
	drop(a, p.Wave, p.Marks, p.Spots, p.Table)
	return h
}

func grown[T any](t *testing.T, a *arena.Arena, l []T, insert func(*arena.Arena, int, int, T) (int, api.Errno)) int {
	t.Helper()
	h := 0
	for i, x := range l {
		g, e := insert(a, h, i, x)
		if e != api.OK {
			t.Fatalf("insert at %d: %d", i, e)
		}
		drop(a, h)
		h = g
	}
	return h
}

func drop(a *arena.Arena, l ...int) {
	for _, h := range l {
		a.Drop(h)
	}
	a.Work(api.MaxNodes)
}

func node(t *testing.T, a *arena.Arena, n api.Node) int {
	t.Helper()
	h, e := a.Make(n)
	if e != api.OK {
		t.Fatalf("Make(%v): %d", n, e)
	}
	return h
}

func counts(a *arena.Arena) []int {
	var l []int
	for h := 1; h <= a.Size(); h++ {
		l = append(l, a.Count(h))
	}
	return l
}

func partsOf(a *arena.Arena, h int) version.Parts {
	v, _ := version.Of(a, h)
	return v
}

// begins tells the rows that begin with a pattern, from one up to another: of none 0, 0.
func begins(pattern string, docs ...api.Doc) (int, int) {
	low, high := 0, 0
	for i, x := range sorted(docs...) {
		if strings.HasPrefix(docs[x.doc].Text[x.at:], pattern) {
			if high == 0 {
				low = i
			}
			high = i + 1
		}
	}
	return low, high
}

// stands tells where a pattern is, by looking at each place.
func stands(pattern string, docs ...api.Doc) []api.Spot {
	var l []api.Spot
	for _, d := range docs {
		for at := range len(d.Text) + 1 {
			if strings.HasPrefix(d.Text[at:], pattern) {
				l = append(l, api.Spot{Id: d.Id, At: at})
			}
		}
	}
	return l
}

// patterns are what stands in documents, what stands there almost, and what does not.
func patterns(docs ...api.Doc) []string {
	l := []string{"", "a", "\x00", "\xff", "\xfe\xff", "\x00\x00", "nope", "aa", "ab", "ba", strings.Repeat("a", api.MaxText+1), strings.Repeat("a", 10000), "\u00e4"}
	for _, d := range docs {
		for from := 0; from < len(d.Text); from += 1 + from/4 {
			for to := from + 1; to <= len(d.Text); to += 1 + to/4 {
				p := d.Text[from:to]
				l = append(l, p, p+"\x00", p+"\xff", "a"+p, p[:len(p)-1]+"!")
			}
			l = append(l, d.Text[from:])
		}
		l = append(l, d.Text, d.Text+d.Text)
	}
	slices.Sort(l)
	return slices.Compact(l)
}

// same holds all that is told of patterns and rows of a version against its documents.
func same(t *testing.T, a *arena.Arena, h, rate int, docs []api.Doc, patterns ...string) {
	t.Helper()
	for _, p := range patterns {
		low, high := Range(a, h, p)
		x, y := begins(p, docs...)
		if low != x || high != y || Count(a, h, p) != y-x {
			t.Fatalf("%q in %v: %d, %d, %d, not %d, %d, %d", p, docs, low, high, Count(a, h, p), x, y, y-x)
		}
		if l, want := Locate(a, h, p), stands(p, docs...); !slices.Equal(l, want) {
			t.Fatalf("%q in %v by %d: %v, not %v", p, docs, rate, l, want)
		}
	}
	for i, x := range sorted(docs...) {
		spot, is := Spot(a, h, i)
		if want := (api.Spot{Id: docs[x.doc].Id, At: x.at}); !is || spot != want || Steps(a, h, i) != x.at%rate {
			t.Fatalf("%v by %d, the row %d: %v %v %d, not %v %d", docs, rate, i, spot, is, Steps(a, h, i), want, x.at%rate)
		}
	}
}

// nowhere holds what is told of a row that is none.
func nowhere(t *testing.T, what string, a *arena.Arena, h, row int) {
	t.Helper()
	spot, is := Spot(a, h, row)
	tell(t, fmt.Sprint(what, ": Spot, Steps of ", row), []any{spot, is, Steps(a, h, row)}, []any{api.Spot{}, false, 0})
}

// nothing holds what is told of what has no rows.
func nothing(t *testing.T, what string, a *arena.Arena, h int) {
	t.Helper()
	for _, p := range []string{"", "a", "\x00", "\xff", "ban", strings.Repeat("a", 1000)} {
		low, high := Range(a, h, p)
		tell(t, fmt.Sprintf("%s: Range, Count, Locate of %q", what, p), []any{low, high, Count(a, h, p), Locate(a, h, p)}, []any{0, 0, 0, []api.Spot{}})
	}
	for _, row := range append(far(), 0, 1) {
		nowhere(t, what, a, h, row)
	}
}

func TestP1501TheExample(t *testing.T) {
	a := arena.New(10)
	for _, h := range []int{0, 1, 10, 11, -1} {
		tell(t, "Count", []int{Count(a, h, "a"), Count(a, h, "")}, []int{0, 0})
	}
}

func TestP1501ByHand(t *testing.T) {
	a := arena.New(1000)
	// The rows: the ends of 7 and of 4, a of 7, aba, ba.
	h := built(t, a, listsOf(2, api.Doc{Id: 7, Text: "aba"}, api.Doc{Id: 4, Text: ""}))
	for _, x := range []struct {
		pattern   string
		low, high int
		spots     []api.Spot
	}{
		{"", 0, 5, []api.Spot{{Id: 7, At: 0}, {Id: 7, At: 1}, {Id: 7, At: 2}, {Id: 7, At: 3}, {Id: 4, At: 0}}},
		{"a", 2, 4, []api.Spot{{Id: 7, At: 0}, {Id: 7, At: 2}}},
		{"b", 4, 5, []api.Spot{{Id: 7, At: 1}}},
		{"ab", 3, 4, []api.Spot{{Id: 7, At: 0}}},
		{"ba", 4, 5, []api.Spot{{Id: 7, At: 1}}},
		{"aba", 3, 4, []api.Spot{{Id: 7, At: 0}}},
		{"abab", 0, 0, nil},
		{"aa", 0, 0, nil},
		{"c", 0, 0, nil},
		{"\x00", 0, 0, nil},
	} {
		low, high := Range(a, h, x.pattern)
		tell(t, fmt.Sprintf("%q", x.pattern), []any{low, high, Count(a, h, x.pattern), Locate(a, h, x.pattern)}, []any{x.low, x.high, x.high - x.low, x.spots})
	}
	for row, want := range [][]any{{api.Spot{Id: 7, At: 3}, true, 1}, {api.Spot{Id: 4, At: 0}, true, 0}, {api.Spot{Id: 7, At: 2}, true, 0}, {api.Spot{Id: 7, At: 0}, true, 0}, {api.Spot{Id: 7, At: 1}, true, 1}} {
		spot, is := Spot(a, h, row)
		tell(t, fmt.Sprint("the row ", row), []any{spot, is, Steps(a, h, row)}, want)
	}
}

func TestP1501EachRate(t *testing.T) {
	for _, docs := range collections() {
		for rate := 1; rate <= api.MaxRate; rate++ {
			a := arena.New(api.MaxNodes)
			h := built(t, a, listsOf(rate, docs...))
			if rate == 3 {
				same(t, a, h, rate, docs, patterns(docs...)...)
			}
			same(t, a, h, rate, docs, "", "an")
		}
	}
}

// TestP1501AsBack: each Range is that of package back of the symbols, also of such that no documents have.
func TestP1501AsBack(t *testing.T) {
	columns := [][]int{nil, {98}, {0}, {98, 98, 98}, {98, 99}, {99, 98}, {0, 0, 98}, {256, 0, 1, 1, 256}, {256, 256}, {1, 2, 3, 1, 2, 3, 0}}
	for _, docs := range collections() {
		var l []string
		for _, d := range docs {
			l = append(l, d.Text)
		}
		columns = append(columns, rows.Symbols(l...))
	}
	for _, l := range columns {
		a := arena.New(api.MaxNodes)
		h := built(t, a, plain{symbols: l})
		for _, p := range append(patterns(collections()[3]...), "aaa", "bb", "abab", "baba", "\xff\xff\xff", "\x00\x01\x02\x00\x01\x02", "\x01\x00") {
			low, high := Range(a, h, p)
			x, y := back.Range(p, l...)
			tell(t, fmt.Sprintf("%q in %v", p, l), []int{low, high, Count(a, h, p)}, []int{x, y, back.Count(p, l...)})
		}
	}
}

func TestP1501AllBytes(t *testing.T) {
	a := arena.New(api.MaxNodes)
	docs := make([]api.Doc, 7)
	for i := range docs {
		b := make([]byte, 37)
		for k := range b {
			b[k] = byte(i*37 + k)
		}
		docs[i] = api.Doc{Id: 100 - i, Text: string(b)}
	}
	h := built(t, a, listsOf(8, docs...))
	for b := range 256 {
		low, high := begins(string([]byte{byte(b)}), docs...)
		x, y := Range(a, h, string([]byte{byte(b)}))
		tell(t, fmt.Sprint("the byte ", b), []any{x, y, Locate(a, h, string([]byte{byte(b)}))}, []any{low, high, stands(string([]byte{byte(b)}), docs...)})
	}
	same(t, a, h, 8, docs)
}

// TestP1501AllSmallOnes: all lists of three texts of two bytes, and all patterns of three.
func TestP1501AllSmallOnes(t *testing.T) {
	texts := []string{"", "a", "b", "aa", "ab", "ba", "bb"}
	short := []string{"", "a", "b", "aa", "ab", "ba", "bb", "aaa", "aab", "aba", "abb", "baa", "bab", "bba", "bbb", "c"}
	a := arena.New(1000)
	for n := range len(texts) * len(texts) * len(texts) {
		rate := 1 + n%3
		docs := []api.Doc{{Id: 9, Text: texts[n%7]}, {Id: 4, Text: texts[n/7%7]}, {Id: 7, Text: texts[n/49]}}
		h := built(t, a, listsOf(rate, docs...))
		same(t, a, h, rate, docs, short...)
		drop(a, h)
	}
}

// TestP1501ComingAndGoing: of versions that were made by the layers below, and of the ones ahead, which stay as they were.
func TestP1501ComingAndGoing(t *testing.T) {
	type one struct {
		h    int
		docs []api.Doc
	}
	r := rand.New(rand.NewSource(1501))
	for range 4 {
		a, rate := arena.New(api.MaxNodes), 1+r.Intn(api.MaxRate)
		alphabet := [][]byte{{'a', 'b'}, {0, 1, 254, 255}, {'a'}, {0, 255}}[r.Intn(4)]
		all := []one{{}}
		for id := 20; id > 0; id-- {
			now := all[len(all)-1]
			if len(now.docs) > 4 || len(now.docs) > 0 && r.Intn(3) == 0 {
				i := r.Intn(len(now.docs))
				c, e := cut.New(a, now.h, rate, now.docs[i].Id)
				ended(t, a, e, c.Step)
				all = append(all, one{c.Root(), slices.Delete(slices.Clone(now.docs), i, i+1)})
				continue
			}
			b := make([]byte, r.Intn(20))
			for i := range b {
				b[i] = alphabet[r.Intn(len(alphabet))]
			}
			p, e := put.New(a, now.h, rate, id, string(b))
			ended(t, a, e, p.Step)
			all = append(all, one{p.Root(), append(slices.Clone(now.docs), api.Doc{Id: id, Text: string(b)})})
		}
		for _, x := range all {
			same(t, a, x.h, rate, x.docs, "", "a", "ab", "\x00", "aaa", "\xff\x00")
		}
	}
}

// ended does all Steps.
func ended(t *testing.T, a *arena.Arena, e api.Errno, step func() (bool, api.Errno)) {
	t.Helper()
	for is := e != api.OK; !is; a.Work(api.MaxNodes) {
		is, e = step()
	}
	tell(t, "the last Step", e, api.OK)
}

// TestP1501MixedRates: a version whose documents came in at several rates.
func TestP1501MixedRates(t *testing.T) {
	a, h := arena.New(api.MaxNodes), 0
	docs := collections()[7]
	for i, rate := range []int{3, 16, 2} {
		p, e := put.New(a, h, rate, docs[i].Id, docs[i].Text)
		ended(t, a, e, p.Step)
		h = p.Root()
	}
	for i, x := range sorted(docs...) {
		spot, is := Spot(a, h, i)
		tell(t, fmt.Sprint("the row ", i), []any{spot, is, Steps(a, h, i)}, []any{api.Spot{Id: docs[x.doc].Id, At: x.at}, true, x.at % []int{3, 16, 2}[x.doc]})
	}
	tell(t, "Locate", []any{Locate(a, h, "a"), Locate(a, h, "mis")}, []any{stands("a", docs...), stands("mis", docs...)})
}

func TestP1501NoSuchRow(t *testing.T) {
	for _, docs := range collections() {
		a := arena.New(api.MaxNodes)
		h := built(t, a, listsOf(4, docs...))
		n := len(sorted(docs...))
		for _, row := range append(far(), n, n+1, n+64, 2*n) {
			nowhere(t, "no row", a, h, row)
		}
	}
}

func TestP1501WhatIsNoVersion(t *testing.T) {
	a := arena.New(3000)
	l := listsOf(2, collections()[3]...)
	h, waits, gone := built(t, a, l), built(t, a, l), built(t, a, l)
	v := partsOf(a, h)
	drop(a, gone)
	a.Drop(waits)
	other := node(t, a, api.Node{Tag: api.TagRoot, Kids: [4]int{v.Wave, v.Marks, v.Spots, v.Table}, A: 1})
	another := node(t, a, api.Node{Tag: api.TagRoot, Kids: [4]int{v.Wave, v.Marks, v.Spots, v.Table}, B: 1})
	for _, h := range append(far(), 0, v.Wave, v.Marks, v.Spots, v.Table, waits, gone, other, another, a.Size(), a.Size()+1) {
		nothing(t, fmt.Sprint("the root ", h), a, h)
	}
	for what, none := range map[string]*arena.Arena{"nil": nil, "zero": {}} {
		for _, h := range append(far(), 0, 1, h) {
			nothing(t, what+" arena", none, h)
		}
	}
}

// TestP1501NothingIsMade: nothing is made, kept or dropped, and none is needed.
func TestP1501NothingIsMade(t *testing.T) {
	for _, docs := range collections() {
		a := arena.New(api.MaxNodes)
		h := built(t, a, listsOf(3, docs...))
		for a.Used() < a.Size() {
			node(t, a, api.Node{Tag: api.TagLeaf, A: 1, B: 1})
		}
		was, made := counts(a), a.Made()
		same(t, a, h, 3, docs, "", "a", "an", "nope")
		tell(t, "the counts", []any{slices.Equal(counts(a), was), a.Made() - made, a.Pending()}, []any{true, 0, 0})
	}
}

func TestP1501LocateIsNewEachTime(t *testing.T) {
	a := arena.New(1000)
	h := built(t, a, listsOf(2, collections()[3]...))
	l := Locate(a, h, "an")
	want := fmt.Sprint(l)
	for i := range l {
		l[i] = api.Spot{}
	}
	tell(t, "Locate", Locate(a, h, "an"), want)
}

// TestP1501TheOrderOfTheTable: the documents' order is the table's, neither that of their numbers nor that of their rows.
func TestP1501TheOrderOfTheTable(t *testing.T) {
	a := arena.New(1000)
	docs := []api.Doc{{Id: 2, Text: "xa"}, {Id: 9, Text: "xb"}, {Id: 1, Text: "xa"}, {Id: 5, Text: "axx"}}
	h := built(t, a, listsOf(1, docs...))
	tell(t, "x", Locate(a, h, "x"), []api.Spot{{Id: 2, At: 0}, {Id: 9, At: 0}, {Id: 1, At: 0}, {Id: 5, At: 1}, {Id: 5, At: 2}})
	// By hand the table is turned round, and some of it goes: who is not there comes last, by its number.
	l := listsOf(1, docs...)
	slices.Reverse(l.table)
	tell(t, "turned round", Locate(a, built(t, a, l), "x"), []api.Spot{{Id: 5, At: 1}, {Id: 5, At: 2}, {Id: 1, At: 0}, {Id: 9, At: 0}, {Id: 2, At: 0}})
	l.table = []list.Item{{A: 7, B: 1}, {A: 9, B: 2}}
	tell(t, "not there", Locate(a, built(t, a, l), "x"), []api.Spot{{Id: 9, At: 0}, {Id: 1, At: 0}, {Id: 2, At: 0}, {Id: 5, At: 1}, {Id: 5, At: 2}})
	l.table = nil
	tell(t, "none there", Locate(a, built(t, a, l), "x"), []api.Spot{{Id: 1, At: 0}, {Id: 2, At: 0}, {Id: 5, At: 1}, {Id: 5, At: 2}, {Id: 9, At: 0}})
}

// TestP1501FewMarks: a row is followed as far as it takes, also where less is marked than any rate says.
func TestP1501FewMarks(t *testing.T) {
	a := arena.New(api.MaxNodes)
	docs := []api.Doc{{Id: 3, Text: strings.Repeat("ab", 40)}, {Id: 1, Text: strings.Repeat("b", 90)}}
	h := built(t, a, listsOf(1000, docs...))
	same(t, a, h, 1000, docs, "", "a", "b", "bbb", "abab", "abb")
	// The document's beginning is not marked, the byte behind it is.
	l := listsOf(1, api.Doc{Id: 3, Text: "abc"})
	l.marks, l.spots = []bool{false, false, true, false}, []list.Item{{A: 3, B: 1}}
	h = built(t, a, l)
	nowhere(t, "the beginning", a, h, 1)
	tell(t, "Locate", []any{Locate(a, h, "a"), Locate(a, h, "")}, []any{[]api.Spot{}, []api.Spot{{Id: 3, At: 1}, {Id: 3, At: 2}, {Id: 3, At: 3}}})
}

// TestP1501RoundAndRound: symbols by which rows lead to one another, and none of them to a terminator.
func TestP1501RoundAndRound(t *testing.T) {
	for _, n := range []int{1, 2, 3, 64, 65, 420} {
		a := arena.New(api.MaxNodes)
		// Row 0 leads to the last one, each other one to the one ahead of it.
		symbols := slices.Repeat([]int{98}, n)
		symbols[0] = 99
		h := built(t, a, plain{symbols: symbols, marks: make([]bool, n), spots: []list.Item{{A: 3, B: 4}}})
		for _, row := range []int{0, n / 2, n - 1, n} {
			nowhere(t, fmt.Sprint("not marked, ", n), a, h, row)
		}
		tell(t, "not marked", Locate(a, h, ""), []api.Spot{})
		for _, mark := range []int{0, n / 2, n - 1} {
			marks := make([]bool, n)
			marks[mark] = true
			h := built(t, a, plain{symbols: symbols, marks: marks, spots: []list.Item{{A: 3, B: 4}}})
			var all []api.Spot
			for row := range n {
				steps := (row - mark + n) % n
				spot, is := Spot(a, h, row)
				if all = append(all, api.Spot{Id: 3, At: 4 + row}); !is || spot != (api.Spot{Id: 3, At: 4 + steps}) || Steps(a, h, row) != steps {
					t.Fatalf("the row %d of %d: %v %v %d", row, n, spot, is, Steps(a, h, row))
				}
				if row > 20 {
					break
				}
			}
			if l := Locate(a, h, ""); len(l) != n || !slices.Equal(l[:len(all)], all) {
				t.Fatalf("all rows of %d, the row %d marked: %v", n, mark, l)
			}
			drop(a, h)
		}
	}
}

// TestP1501OddRoots: roots that somebody put together of what does not fit.
func TestP1501OddRoots(t *testing.T) {
	a := arena.New(api.MaxNodes)
	docs := collections()[3]
	v := partsOf(a, built(t, a, listsOf(2, docs...)))
	small := partsOf(a, built(t, a, listsOf(2, docs[:1]...)))
	many := vast(t, a, 0, 40)
	choices := []int{0, v.Wave, v.Marks, v.Spots, v.Table, small.Wave, small.Marks, small.Spots, small.Table, many.Wave, many.Marks, many.Spots}
	for n := range 12 * 12 * 12 * 12 {
		if n%7 > 0 {
			continue
		}
		p := version.Parts{Wave: choices[n%12], Marks: choices[n/12%12], Spots: choices[n/144%12], Table: choices[n/1728]}
		h, _ := version.Make(a, p)
		for _, p := range []string{"", "an", "x"} {
			if low, high := Range(a, h, p); low < 0 || high < low || high > version.Rows(a, h) || len(Locate(a, h, p)) > high-low {
				t.Fatalf("%d: %q: %d, %d, %v", n, p, low, high, Locate(a, h, p))
			}
		}
		marks, spots := bits.All, list.All
		if p.Wave != v.Wave && p.Wave != small.Wave {
			for _, row := range []int{0, 1, 5, 11} {
				nowhere(t, fmt.Sprint(n), a, h, row)
			}
			tell(t, fmt.Sprint(n, ": Locate"), Locate(a, h, ""), []api.Spot{})
		} else if p.Marks != many.Marks && p.Spots != many.Spots {
			byPlainLists(t, a, h, plain{wave.All(a, p.Wave), marks(a, p.Marks), spots(a, p.Spots), nil})
		}
		drop(a, h)
	}
}

// byPlainLists holds each row against a walk over lists: the row that is one byte longer till a marked one, not more often
// than there are rows.
func byPlainLists(t *testing.T, a *arena.Arena, h int, l plain) {
	t.Helper()
	for row := range l.symbols {
		var want api.Spot
		steps, is, i := 0, false, row
		for range l.symbols {
			if i < len(l.marks) && l.marks[i] {
				k := 0
				for _, mark := range l.marks[:i] {
					if mark {
						k++
					}
				}
				if is = k < len(l.spots); is {
					want = api.Spot{Id: l.spots[k].A, At: l.spots[k].B + steps}
				}
				break
			}
			next := 0
			for k, s := range l.symbols {
				if s < l.symbols[i] || s == l.symbols[i] && k < i {
					next++
				}
			}
			if l.symbols[i] == 0 {
				break
			}
			i, steps = next, steps+1
		}
		if !is {
			steps = 0
		}
		spot, there := Spot(a, h, row)
		tell(t, fmt.Sprintf("the row %d of %v", row, l), []any{spot, there, Steps(a, h, row)}, []any{want, is, steps})
	}
}

// vast are parts that are below themselves again and again, each of one thing alone, 2 to the times.
func vast(t *testing.T, a *arena.Arena, symbol, times int) version.Parts {
	t.Helper()
	rowOf := func(bit uint64) int {
		row := node(t, a, api.Node{Tag: api.TagLeaf, A: bit, B: 1})
		for i := range times {
			row = node(t, a, api.Node{Tag: api.TagFork, Kids: [4]int{row, row}, A: 2 << i, B: bit * 2 << i})
		}
		return row
	}
	zeros, ones := rowOf(0), rowOf(1)
	items := node(t, a, api.Node{Tag: api.TagItem, A: 1, B: 1})
	for i := range times {
		items = node(t, a, api.Node{Tag: api.TagJoin, Kids: [4]int{items, items}, A: 2 << i})
	}
	symbols := 0
	for level := range api.Levels {
		kids := [4]int{zeros, symbols}
		if symbol>>level%2 == 1 {
			kids = [4]int{ones, 0, symbols}
		}
		symbols = node(t, a, api.Node{Tag: api.TagWave, Kids: kids})
	}
	return version.Parts{Wave: symbols, Marks: ones, Spots: items, Table: items}
}

// TestP1501MoreThanAnybodyCanFollow: rows that are below themselves again and again are counted, and as many as an arena has
// room for are found; of more than these none is anywhere.
func TestP1501MoreThanAnybodyCanFollow(t *testing.T) {
	for _, times := range []int{3, 13, 16, 40, 60} {
		a := arena.New(api.MaxNodes)
		p := vast(t, a, 98, times)
		h, _ := version.Make(a, p)
		n := 1 << times
		for _, pattern := range []string{"", "a", "aaaaaaaaaa"} {
			low, high := Range(a, h, pattern)
			tell(t, "Range, Count", []int{low, high, Count(a, h, pattern)}, []int{0, n, n})
		}
		tell(t, "Count", Count(a, h, "ab"), 0)
		there := n <= mostRows
		for _, row := range []int{0, 1, n / 2, n - 1} {
			spot, is := Spot(a, h, row)
			want := api.Spot{}
			if there {
				want = api.Spot{Id: 1, At: 1}
			}
			tell(t, "Spot, Steps", []any{spot, is, Steps(a, h, row)}, []any{want, there, 0})
		}
		nowhere(t, "behind the last one", a, h, n)
		l := Locate(a, h, "a")
		tell(t, "Locate", []any{len(l) == n, len(l) == 0}, []any{there, !there})
		p.Marks = 0
		h, _ = version.Make(a, p)
		nowhere(t, "not marked", a, h, n/2)
		tell(t, "not marked", Locate(a, h, ""), []api.Spot{})
	}
}

// TestP1501OneMoreThanAnybodyCanFollow: just as many as there may be, and one more.
func TestP1501OneMoreThanAnybodyCanFollow(t *testing.T) {
	for more := range 2 {
		a := arena.New(api.MaxNodes)
		h := built(t, a, plain{spots: []list.Item{{A: 3, B: 4}}})
		spots := partsOf(a, h).Spots
		bit, _ := bits.Build(a, make([]bool, mostRows+more)...)
		symbols := 0
		for level := range api.Levels {
			kids := [4]int{bit, symbols}
			if 98>>level%2 == 1 {
				b, _ := bits.Build(a, slices.Repeat([]bool{true}, mostRows+more)...)
				kids = [4]int{b, 0, symbols}
			}
			symbols = node(t, a, api.Node{Tag: api.TagWave, Kids: kids})
		}
		marks, _ := bits.Insert(a, bit, mostRows+more-1, true)
		h, _ = version.Make(a, version.Parts{Wave: symbols, Marks: marks, Spots: spots})
		tell(t, "the rows", version.Rows(a, h), mostRows+more)
		spot, is := Spot(a, h, mostRows+more-1)
		want := []any{api.Spot{Id: 3, At: 4}, true, []api.Spot{{Id: 3, At: 4}}}
		if more > 0 {
			want = []any{api.Spot{}, false, []api.Spot{}}
		}
		tell(t, fmt.Sprint(more, " more"), []any{spot, is, Locate(a, h, "")}, want)
	}
}

// TestP1501FalseNodes: what turns out to be none further down is as empty, and each call ends.
func TestP1501FalseNodes(t *testing.T) {
	a := arena.New(api.MaxNodes)
	l := listsOf(2, collections()[3]...)
	v := partsOf(a, built(t, a, l))
	for _, part := range []*int{&v.Wave, &v.Marks, &v.Spots, &v.Table} {
		was := *part
		for _, n := range []api.Node{
			{Tag: api.TagFork, Kids: [4]int{v.Marks, v.Table}, A: 20, B: 7},
			{Tag: api.TagFork, Kids: [4]int{v.Marks, v.Marks}, A: 25, B: 7},
			{Tag: api.TagWave, Kids: [4]int{v.Marks}},
			{Tag: api.TagWave, Kids: [4]int{v.Marks, v.Wave, v.Wave}},
			{Tag: api.TagJoin, Kids: [4]int{v.Spots, v.Wave}, A: 30},
			{Tag: api.TagItem, A: 1 << 63, B: 1},
			{Tag: api.TagLeaf, A: 1 << 63, B: 3},
			{Tag: api.TagRoot, Kids: [4]int{v.Wave, v.Marks, v.Spots, v.Table}},
		} {
			*part = node(t, a, n)
			h, _ := version.Make(a, v)
			for _, p := range []string{"", "a", "an", "x"} {
				low, high := Range(a, h, p)
				if low < 0 || high < low || Count(a, h, p) != high-low || len(Locate(a, h, p)) > high-low {
					t.Fatalf("%v: %q: %d, %d, %v", n, p, low, high, Locate(a, h, p))
				}
			}
			for row := range 14 {
				if spot, is := Spot(a, h, row); !is && (spot != api.Spot{} || Steps(a, h, row) != 0) {
					t.Fatalf("%v: %d: %v", n, row, spot)
				}
			}
		}
		*part = was
	}
	h, _ := version.Make(a, v)
	same(t, a, h, 2, collections()[3], "", "an")
}

// TestP1501SpotsThatAreNotThere: a marked row ends the way, also where nothing stands at it.
func TestP1501SpotsThatAreNotThere(t *testing.T) {
	a := arena.New(1000)
	l := listsOf(1, api.Doc{Id: 3, Text: "ab"})
	l.spots = l.spots[:2] // of the end and of the whole, not of b
	h := built(t, a, l)
	nowhere(t, "b", a, h, 2)
	tell(t, "Locate", []any{Locate(a, h, ""), Count(a, h, "")}, []any{[]api.Spot{{Id: 3, At: 0}, {Id: 3, At: 2}}, 3})
	// More marks and spots than rows: there are no more rows by these.
	l = listsOf(1, api.Doc{Id: 3, Text: "ab"})
	l.marks, l.spots = append(l.marks, true), append(l.spots, list.Item{A: 3, B: 3})
	nowhere(t, "behind the last one", a, built(t, a, l), 3)
}

func TestP1501LongPatterns(t *testing.T) {
	a := arena.New(api.MaxNodes)
	docs := collections()[7]
	h := built(t, a, listsOf(2, docs...))
	for _, p := range []string{strings.Repeat("a", 1<<24), strings.Repeat("x", 1<<24), docs[0].Text + strings.Repeat("s", 1<<20)} {
		low, high := Range(a, h, p)
		tell(t, "long", []any{low, high, Count(a, h, p), Locate(a, h, p)}, []any{0, 0, 0, []api.Spot{}})
	}
	h = built(t, a, plain{symbols: []int{98}})
	low, high := Range(a, h, strings.Repeat("a", 10000))
	tell(t, "round and round", []int{low, high}, []int{0, 1})
}

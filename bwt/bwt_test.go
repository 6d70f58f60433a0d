package bwt

import (
	"fmt"
	"math"
	"math/rand"
	"slices"
	"strings"
	"testing"

	"scrinium/api"
	"scrinium/rows"
)

// far are numbers that are no symbol, no row and no document, up to the ends of int.
func far() []int {
	return []int{-1, -2, -256, -257, 257, 258, 512, 1 << 16, math.MaxInt32, math.MinInt32, math.MaxInt, math.MinInt, math.MinInt + 1}
}

// wrong are lists that are no column: one number is no symbol, at any place.
func wrong() [][]int {
	var l [][]int
	for _, s := range far() {
		l = append(l, []int{s}, []int{s, 0, 98}, []int{99, s, 98}, []int{99, 0, s}, []int{0, 0, 0, s, 0}, []int{s, s})
	}
	return l
}

// documents are some that are told by hand, and many that are drawn, always the same; all of them may be.
func documents() [][]string {
	full := strings.Repeat("x", api.MaxText)
	l := [][]string{{}, {""}, {"", ""}, {"a"}, {"ab"}, {"ba"}, {"a", "a"}, {"aa", "a"}, {"", "\x00"}, {"\x00", ""}, {"\xff\x00\xff"}, {"\u00e9\u20ac", "e"},
		{"banana", "", "nan"}, {"banana", "anna", "banana", "x", "nan"}, {full}, {full, full}, make([]string, api.MaxDocs), slices.Repeat([]string{full}, api.MaxDocs)}
	draw := rand.New(rand.NewSource(4))
	for i := range 150 {
		letters := []int{1, 2, 3, 256}[i%4]
		docs := make([]string, draw.Intn(api.MaxDocs+1))
		for d := range docs {
			b := make([]byte, draw.Intn(13))
			for j := range b {
				b[j] = byte(draw.Intn(letters))
			}
			docs[d] = string(b)
		}
		l = append(l, docs)
	}
	return l
}

// columns are those of documents, and others that are drawn, most of them no documents'.
func columns() [][]int {
	l := [][]int{nil, {0}, {98}, {256}, {99, 0, 98, 99, 0, 256}, {98, 0, 99}, {2, 0, 2}, {5, 5, 0}, {1, 2, 3}}
	for _, docs := range documents() {
		l = append(l, rows.Symbols(docs...))
	}
	draw := rand.New(rand.NewSource(5))
	for i := range 200 {
		symbols := []int{2, 3, 5, api.Symbols}[i%4]
		column := make([]int, draw.Intn(30))
		for j := range column {
			column[j] = draw.Intn(symbols)
		}
		l = append(l, column)
	}
	return l
}

// small are all columns of at most six of the symbols 0, 1 and 2.
func small() [][]int {
	all := [][]int{{}}
	for from, n := 0, 1; n <= 6; n++ {
		to := len(all)
		for _, c := range all[from:to] {
			for s := range 3 {
				all = append(all, append(slices.Clone(c), s))
			}
		}
		from = to
	}
	return all
}

// tally counts one by one.
func tally(l []int, is func(int) bool) int {
	n := 0
	for _, x := range l {
		if is(x) {
			n++
		}
	}
	return n
}

// walked tells a text by Next alone; false, if it does not end in so many steps as there are rows.
func walked(doc int, l []int) (string, bool) {
	s, row := "", doc
	for range len(l) {
		next, more := Next(row, l...)
		if !more {
			return s, true
		}
		s, row = string([]byte{byte(l[row] - 1)})+s, next
	}
	return "", false
}

func TestP401RightIsSymbolsAlone(t *testing.T) {
	for _, l := range append(columns(), []int{0, 256}, []int{}, make([]int, 5000)) {
		if !Right(l...) {
			t.Errorf("Right(%v): false", l)
		}
	}
	for s := range 257 {
		if !Right(s) {
			t.Errorf("Right(%d): false", s)
		}
	}
	for _, l := range wrong() {
		if Right(l...) {
			t.Errorf("Right(%v): true", l)
		}
	}
}

func TestP401CountsHasEachSymbol(t *testing.T) {
	for _, l := range columns() {
		got := Counts(l...)
		if len(got) != 257 {
			t.Errorf("Counts(%v) has %d numbers", l, len(got))
			continue
		}
		for s, n := range got {
			if want := tally(l, func(x int) bool { return x == s }); n != want {
				t.Errorf("Counts(%v)[%d]: %d, not %d", l, s, n, want)
			}
		}
	}
}

func TestP401RankIsAmongTheFirst(t *testing.T) {
	x := []int{99, 0, 98, 99, 0, 256}
	for _, c := range []struct{ s, i, want int }{
		{99, 0, 0}, {99, 1, 1}, {99, 3, 1}, {99, 4, 2}, {99, 6, 2}, {99, 7, 2}, {99, math.MaxInt, 2}, {99, -1, 0}, {99, math.MinInt, 0},
		{0, 1, 0}, {0, 2, 1}, {0, 6, 2}, {256, 5, 0}, {256, 6, 1}, {1, 6, 0}, {-1, 6, 0}, {257, 6, 0},
	} {
		if got := Rank(c.s, c.i, x...); got != c.want {
			t.Errorf("Rank(%d, %d): %d, not %d", c.s, c.i, got, c.want)
		}
	}
	for _, l := range columns() {
		for _, s := range append(far(), 0, 1, 2, 98, 255, 256) {
			for i := -2; i <= len(l)+2; i++ {
				first := l[:min(max(i, 0), len(l))]
				if got, want := Rank(s, i, l...), tally(first, func(x int) bool { return x == s }); got != want {
					t.Errorf("Rank(%d, %d, %v): %d, not %d", s, i, l, got, want)
				}
			}
		}
	}
}

func TestP401BeforeIsHowManyAreLess(t *testing.T) {
	x := []int{99, 0, 98, 99, 0, 256}
	for s, want := range map[int]int{0: 0, 1: 2, 98: 2, 99: 3, 100: 5, 256: 5, 257: 6, math.MaxInt: 6, -1: 0, math.MinInt: 0} {
		if got := Before(s, x...); got != want {
			t.Errorf("Before(%d): %d, not %d", s, got, want)
		}
	}
	for _, l := range columns() {
		for _, s := range append(far(), 0, 1, 2, 3, 98, 255, 256) {
			if got, want := Before(s, l...), tally(l, func(x int) bool { return x < s }); got != want {
				t.Errorf("Before(%d, %v): %d, not %d", s, l, got, want)
			}
		}
	}
}

func TestP401NextIsBeforeAndRank(t *testing.T) {
	for _, l := range append(columns(), small()...) {
		for i, s := range l {
			got, is := Next(i, l...)
			want := tally(l, func(x int) bool { return x < s }) + tally(l[:i], func(x int) bool { return x == s })
			if s == 0 {
				want = 0
			}
			if is != (s != 0) || got != want {
				t.Errorf("Next(%d, %v): %d %v, not %d", i, l, got, is, want)
			}
		}
	}
}

func TestP401NextIsOneByteLonger(t *testing.T) {
	for _, docs := range documents() {
		sorted, column := rows.Sorted(docs...), rows.Symbols(docs...)
		for i, r := range sorted {
			got, is := Next(i, column...)
			if is != (r.At > 0) {
				t.Errorf("Next(%d) of %q: %v at %v", i, docs, is, r)
			}
			if want := (api.Row{Doc: r.Doc, At: r.At - 1}); is && sorted[got] != want {
				t.Errorf("Next(%d) of %q: %v, not %v", i, docs, sorted[got], want)
			}
		}
	}
}

func TestP401NextOfNoRow(t *testing.T) {
	for _, l := range [][]int{nil, {0}, {98}, {99, 0, 98}} {
		for _, i := range append(far(), len(l), len(l)+1) {
			if got, is := Next(i, l...); is || got != 0 {
				t.Errorf("Next(%d, %v): %d %v", i, l, got, is)
			}
		}
	}
}

func TestP401NothingOfWrongLists(t *testing.T) {
	for _, l := range wrong() {
		if got := Counts(l...); len(got) != 0 {
			t.Errorf("Counts(%v): %v", l, got)
		}
		for _, s := range append(far(), 0, 98, 99, 256) {
			if got := Before(s, l...); got != 0 {
				t.Errorf("Before(%d, %v): %d", s, l, got)
			}
			for i := range len(l) + 1 {
				if got := Rank(s, i, l...); got != 0 {
					t.Errorf("Rank(%d, %d, %v): %d", s, i, l, got)
				}
			}
		}
		for i := -1; i <= len(l); i++ {
			if got, is := Next(i, l...); is || got != 0 {
				t.Errorf("Next(%d, %v): %d %v", i, l, got, is)
			}
		}
	}
}

func TestP402TextOfDocuments(t *testing.T) {
	for _, docs := range documents() {
		column := rows.Symbols(docs...)
		for doc, want := range docs {
			if got, is := Text(doc, column...); !is || got != want {
				t.Errorf("Text(%d) of %q: %q %v", doc, docs, got, is)
			}
		}
	}
}

func TestP402TextByHand(t *testing.T) {
	for _, c := range []struct {
		l    []int
		doc  int
		want string
	}{
		{[]int{99, 0, 98}, 0, "ab"},
		{[]int{0}, 0, ""},
		{[]int{2, 0, 2}, 0, "\x01"},
		{[]int{1, 0}, 0, "\x00"},
		{[]int{5, 5, 0}, 0, "\x04\x04"},
		{[]int{256, 256, 256, 0, 0}, 0, "\xff\xff"},
		{[]int{256, 256, 256, 0, 0}, 1, "\xff"},
	} {
		if got, is := Text(c.doc, c.l...); !is || got != c.want {
			t.Errorf("Text(%d, %v): %q %v, not %q", c.doc, c.l, got, is, c.want)
		}
	}
}

func TestP402TextIsAWalkByNext(t *testing.T) {
	for _, l := range append(columns(), small()...) {
		for doc := range tally(l, func(x int) bool { return x == 0 }) {
			want, ends := walked(doc, l)
			if got, is := Text(doc, l...); is != ends || got != want {
				t.Errorf("Text(%d, %v): %q %v, not %q %v", doc, l, got, is, want, ends)
			}
		}
	}
}

func TestP402TextOfNoTerminatorsRow(t *testing.T) {
	for _, l := range append(columns(), small()...) {
		zeros := tally(l, func(x int) bool { return x == 0 })
		no := []int{-1, -2, zeros, zeros + 1, len(l), len(l) + 1, math.MaxInt, math.MinInt}
		for _, doc := range no {
			if doc >= 0 && doc < zeros {
				continue
			}
			if got, is := Text(doc, l...); is || got != "" {
				t.Errorf("Text(%d, %v): %q %v", doc, l, got, is)
			}
		}
	}
}

func TestP402NothingOfWrongLists(t *testing.T) {
	for _, l := range wrong() {
		for doc := -1; doc <= len(l); doc++ {
			if got, is := Text(doc, l...); is || got != "" {
				t.Errorf("Text(%d, %v): %q %v", doc, l, got, is)
			}
		}
		if got, is := Docs(l...); is || len(got) != 0 {
			t.Errorf("Docs(%v): %q %v", l, got, is)
		}
	}
}

func TestP402DocsAreTheDocuments(t *testing.T) {
	for _, docs := range documents() {
		if got, is := Docs(rows.Symbols(docs...)...); !is || !slices.Equal(got, docs) {
			t.Errorf("Docs of %q: %q %v", docs, got, is)
		}
	}
}

// texts are all of at most so many of the bytes 0 and 1.
func texts(most int) []string {
	if most == 0 {
		return []string{""}
	}
	l := []string{""}
	for _, s := range texts(most - 1) {
		l = append(l, "\x00"+s, "\x01"+s)
	}
	return l
}

// told writes down for every list of documents of at most so many rows, bytes 0 and 1 alone, what its column is.
func told(into map[string][]string, ahead []string, left int) {
	into[fmt.Sprint(rows.Symbols(ahead...))] = slices.Clone(ahead)
	if left == 0 {
		return
	}
	for _, s := range texts(left - 1) {
		told(into, append(slices.Clone(ahead), s), left-1-len(s))
	}
}

func TestP402DocsOfEveryColumn(t *testing.T) {
	is := map[string][]string{}
	told(is, nil, 6)
	for _, l := range small() {
		want, may := is[fmt.Sprint(l)]
		if got, ok := Docs(l...); ok != may || !slices.Equal(got, want) {
			t.Errorf("Docs(%v): %q %v, not %q %v", l, got, ok, want, may)
		}
	}
}

func TestP402DocsOfOtherColumns(t *testing.T) {
	for _, l := range [][]int{
		{98},            // no terminator
		{98, 99},        // nor here
		{0, 98},         // a row that leads to itself alone
		{98, 0, 99},     // so does one here
		{0, 0, 99, 98},  // two rows that lead to each other
		{98, 0, 99, 98}, // so do two here, beside a text
	} {
		if got, is := Docs(l...); is || len(got) != 0 {
			t.Errorf("Docs(%v): %q %v", l, got, is)
		}
	}
}

func TestP402DocsAtTheLimits(t *testing.T) {
	if got, is := Docs(); !is || len(got) != 0 {
		t.Errorf("Docs of no rows: %q %v", got, is)
	}
	if got, is := Docs(make([]int, api.MaxDocs)...); !is || !slices.Equal(got, make([]string, api.MaxDocs)) {
		t.Errorf("Docs of %d empty ones: %q %v", api.MaxDocs, got, is)
	}
	if got, is := Docs(make([]int, api.MaxDocs+1)...); is || len(got) != 0 {
		t.Errorf("Docs of %d empty ones: %q %v", api.MaxDocs+1, got, is)
	}
	for n, want := range map[int]bool{api.MaxText: true, api.MaxText + 1: false} {
		// Of one byte again and again the column is that byte's symbols, and the terminator at the end.
		l := append(slices.Repeat([]int{98}, n), 0)
		if s, is := Text(0, l...); !is || s != strings.Repeat("a", n) {
			t.Errorf("Text of %d bytes: %q %v", n, s, is)
		}
		if got, is := Docs(l...); is != want || want && !slices.Equal(got, []string{strings.Repeat("a", n)}) {
			t.Errorf("Docs of %d bytes: %q %v", n, got, is)
		}
	}
}

func TestP402LongColumns(t *testing.T) {
	const n = 300000
	l := append(slices.Repeat([]int{256}, n), 0)
	if s, is := Text(0, l...); !is || s != strings.Repeat("\xff", n) {
		t.Errorf("Text of %d bytes: %d %v", n, len(s), is)
	}
	if got, is := Docs(l...); is || len(got) != 0 {
		t.Errorf("Docs of %d bytes: %d %v", n, len(got), is)
	}
	if got, is := Docs(make([]int, n)...); is || len(got) != 0 {
		t.Errorf("Docs of %d empty ones: %d %v", n, len(got), is)
	}
}

func TestP401P402AnswersAreNewAndNothingIsWritten(t *testing.T) {
	l := rows.Symbols("banana", "", "nan")
	kept := slices.Clone(l)
	counts, wantCounts := Counts(l...), Counts(l...)
	docs, _ := Docs(l...)
	clear(counts)
	clear(docs)
	if got := Counts(l...); !slices.Equal(got, wantCounts) {
		t.Errorf("Counts a second time: %v", got)
	}
	if got, is := Docs(l...); !is || !slices.Equal(got, []string{"banana", "", "nan"}) {
		t.Errorf("Docs a second time: %q %v", got, is)
	}
	Rank(98, 3, l...)
	Before(98, l...)
	Next(0, l...)
	Text(0, l...)
	if !slices.Equal(l, kept) {
		t.Errorf("the column was written: %v", l)
	}
}

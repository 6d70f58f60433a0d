package back

import (
	"math"
	"math/rand"
	"slices"
	"strings"
	"testing"

	"scrinium/api"
	"scrinium/bwt"
	"scrinium/rows"
)

func row(doc, at int) api.Row { return api.Row{Doc: doc, At: at} }

// far are numbers that are no symbol and no row, up to the ends of int.
func far() []int {
	return []int{-1, -2, -256, -257, 257, 258, 512, 1 << 16, math.MaxInt32, math.MinInt32, math.MaxInt, math.MinInt, math.MinInt + 1}
}

// wrong are lists that are no column: one number is no symbol, at any place.
func wrong() [][]int {
	var l [][]int
	for _, s := range far() {
		l = append(l, []int{s}, []int{s, 0, 98}, []int{99, s, 98}, []int{99, 0, s}, []int{98, 98, 98, s, 0}, []int{s, s})
	}
	return l
}

// drawn is a text of the bytes below letters.
func drawn(draw *rand.Rand, most, letters int) string {
	b := make([]byte, draw.Intn(most+1))
	for i := range b {
		b[i] = byte(draw.Intn(letters))
	}
	return string(b)
}

// documents are some that are told by hand, and many that are drawn, always the same; all of them may be.
func documents() [][]string {
	full := strings.Repeat("x", api.MaxText)
	l := [][]string{{}, {""}, {"", ""}, {"a"}, {"ab"}, {"aba"}, {"a", "a"}, {"aa", "a"}, {"a", "aa"}, {"", "\x00"}, {"\x00", ""}, {"\x00\x00\x00"},
		{"\xff\x00\xff"}, {"\xff\xff", "\x7f\x80"}, {"\u00e9\u20ac", "e"}, {"banana", "ananas", "", "nan", "bandana"}, {"abababab", "babababa"},
		{full}, {full, full}, {full[1:], full}, make([]string, api.MaxDocs), slices.Repeat([]string{full}, api.MaxDocs)}
	draw := rand.New(rand.NewSource(6))
	for i := range 150 {
		docs := make([]string, draw.Intn(api.MaxDocs+1))
		for d := range docs {
			docs[d] = drawn(draw, 12, []int{1, 2, 3, 256}[i%4])
		}
		l = append(l, docs)
	}
	return l
}

// patterns are every piece of the documents of at most five bytes, the documents, and others that are hardly there.
func patterns(docs []string) []string {
	l := []string{"", "a", "ab", "x", "\x00", "\x01", "\xff", "\x00\x01", "\x01\x00", "\x00\x00\x00", "zz", strings.Repeat("x", api.MaxText+1)}
	for _, s := range docs {
		l = append(l, s, s+"\x00", s+"x", "\x00"+s, s+s)
		for at := range s {
			for n := 1; n <= 5 && at+n <= len(s); n++ {
				l = append(l, s[at:at+n])
			}
		}
	}
	slices.Sort(l)
	return slices.Compact(l)
}

// columns are those of documents, and others that are drawn, most of them no documents'.
func columns() [][]int {
	l := [][]int{nil, {}, {0}, {98}, {256}, {1}, {99, 0, 98, 99, 0, 256}, {98, 0, 99}, {2, 0, 2}, {0, 98}, {1, 2, 3}, {2, 1}, {256, 1, 0}}
	for _, docs := range documents() {
		l = append(l, rows.Symbols(docs...))
	}
	draw := rand.New(rand.NewSource(7))
	for i := range 200 {
		column := make([]int, draw.Intn(30))
		for j := range column {
			column[j] = draw.Intn([]int{2, 3, 5, api.Symbols}[i%4])
		}
		l = append(l, column)
	}
	return l
}

// stepped counts one by one: Before(s) and Rank(s, i).
func stepped(s, i int, l []int) int {
	n := 0
	for at, x := range l {
		if x < s || x == s && at < i {
			n++
		}
	}
	return n
}

// searched goes by stepped from the last byte to the first.
func searched(pattern string, l []int) (int, int) {
	low, high := 0, len(l)
	for i := len(pattern) - 1; i >= 0; i-- {
		s := int(pattern[i]) + 1
		low, high = stepped(s, low, l), stepped(s, high, l)
		if low >= high {
			return 0, 0
		}
	}
	return low, high
}

func TestP501StepByHand(t *testing.T) {
	aba := rows.Symbols("aba") // a, b, the terminator, a
	for _, c := range []struct{ s, low, high, wantLow, wantHigh int }{
		{98, 0, 4, 1, 3},
		{98, 0, 1, 1, 2},
		{98, 1, 3, 2, 2},
		{98, 3, 4, 2, 3},
		{98, 4, 4, 3, 3},
		{99, 0, 4, 3, 4},
		{99, 1, 3, 3, 4},
		{99, 2, 4, 4, 4},
		{1, 0, 4, 1, 1},
		{100, 0, 4, 4, 4},
		{256, 0, 4, 4, 4},
		{98, 4, 0, 3, 1},
		{98, -9, 99, 1, 3},
		{98, math.MinInt, math.MaxInt, 1, 3},
		{98, math.MaxInt, math.MinInt, 3, 1},
	} {
		if low, high := Step(c.s, c.low, c.high, aba...); low != c.wantLow || high != c.wantHigh {
			t.Errorf("Step(%d, %d, %d): %d, %d, not %d, %d", c.s, c.low, c.high, low, high, c.wantLow, c.wantHigh)
		}
	}
}

func TestP501StepIsBeforeAndRank(t *testing.T) {
	for _, l := range columns() {
		ends := []int{math.MinInt, -1, 0, 1, 2, len(l) / 2, len(l) - 1, len(l), len(l) + 1, math.MaxInt}
		for _, s := range []int{1, 2, 3, 98, 99, 121, 255, 256} {
			for _, low := range ends {
				for _, high := range ends {
					gotLow, gotHigh := Step(s, low, high, l...)
					if wantLow, wantHigh := stepped(s, low, l), stepped(s, high, l); gotLow != wantLow || gotHigh != wantHigh {
						t.Errorf("Step(%d, %d, %d, %v): %d, %d, not %d, %d", s, low, high, l, gotLow, gotHigh, wantLow, wantHigh)
					}
				}
			}
		}
	}
}

func TestP501StepHasTheRowsWithTheSymbolAhead(t *testing.T) {
	l := rows.Symbols("banana", "anna", "", "nan")
	for _, s := range []int{'a' + 1, 'b' + 1, 'n' + 1, 'x' + 1} {
		for low := range len(l) + 1 {
			for high := low; high <= len(l); high++ {
				var want, got []int
				for i := low; i < high; i++ {
					if next, is := bwt.Next(i, l...); is && l[i] == s {
						want = append(want, next)
					}
				}
				from, to := Step(s, low, high, l...)
				for i := from; i < to; i++ {
					got = append(got, i)
				}
				if !slices.Equal(got, want) {
					t.Errorf("Step(%d, %d, %d): %v, not %v", s, low, high, got, want)
				}
			}
		}
	}
}

func TestP501StepOfNoByte(t *testing.T) {
	for _, l := range columns() {
		for _, s := range append(far(), 0) {
			if low, high := Step(s, 0, len(l), l...); low != 0 || high != 0 {
				t.Errorf("Step(%d, 0, %d, %v): %d, %d", s, len(l), l, low, high)
			}
			if low, high := Step(s, 1, 2, l...); low != 0 || high != 0 {
				t.Errorf("Step(%d, 1, 2, %v): %d, %d", s, l, low, high)
			}
		}
	}
}

func TestP501NothingOfWrongLists(t *testing.T) {
	for _, l := range wrong() {
		for _, s := range append(far(), 0, 1, 98, 99, 256) {
			if low, high := Step(s, 0, len(l), l...); low != 0 || high != 0 {
				t.Errorf("Step(%d, 0, %d, %v): %d, %d", s, len(l), l, low, high)
			}
		}
		for _, p := range []string{"", "a", "b", "aa", "\x00", "\xff"} {
			low, high := Range(p, l...)
			if n := Count(p, l...); low != 0 || high != 0 || n != 0 {
				t.Errorf("Range(%q, %v): %d, %d, Count %d", p, l, low, high, n)
			}
		}
	}
}

func TestP501RangeByHand(t *testing.T) {
	aba, bytes := rows.Symbols("aba"), rows.Symbols("\x00\xff", "\xff\x00\x00")
	for _, c := range []struct {
		pattern   string
		l         []int
		low, high int
	}{
		{"", aba, 0, 4},
		{"a", aba, 1, 3},
		{"b", aba, 3, 4},
		{"ab", aba, 2, 3},
		{"ba", aba, 3, 4},
		{"aba", aba, 2, 3},
		{"aa", aba, 0, 0},
		{"bb", aba, 0, 0},
		{"abab", aba, 0, 0},
		{"x", aba, 0, 0},
		{"xa", aba, 0, 0},
		{"ax", aba, 0, 0},
		{"\x00", aba, 0, 0},
		{"", bytes, 0, 7},
		{"\x00", bytes, 2, 5},
		{"\xff", bytes, 5, 7},
		{"\x00\x00", bytes, 3, 4},
		{"\x00\xff", bytes, 4, 5},
		{"\xff\x00", bytes, 6, 7},
		{"\xff\xff", bytes, 0, 0},
		{"", nil, 0, 0},
		{"a", nil, 0, 0},
		{"", []int{0}, 0, 1},
		{"a", []int{0}, 0, 0},
		{"", []int{98}, 0, 1},
		{"aaaa", []int{98}, 0, 1}, // of no documents: a row that leads to itself
		{"aaab", []int{98}, 0, 0},
		{"abab", []int{99, 98}, 0, 1}, // two rows that lead to each other
		{"baba", []int{99, 98}, 1, 2},
	} {
		low, high := Range(c.pattern, c.l...)
		if low != c.low || high != c.high {
			t.Errorf("Range(%q, %v): %d, %d, not %d, %d", c.pattern, c.l, low, high, c.low, c.high)
		}
		if n := Count(c.pattern, c.l...); n != c.high-c.low {
			t.Errorf("Count(%q, %v): %d, not %d", c.pattern, c.l, n, c.high-c.low)
		}
	}
}

func TestP501RangeIsAStepForEachByte(t *testing.T) {
	draw := rand.New(rand.NewSource(8))
	for i, l := range columns() {
		ask := []string{"", "\x00", "\x01", "a", "\xff", "\x01\x00", "\x00\x01\x00\x01"}
		for range 40 {
			ask = append(ask, drawn(draw, 6, []int{1, 2, 4, 256}[i%4]))
		}
		for _, p := range ask {
			wantLow, wantHigh := searched(p, l)
			low, high := Range(p, l...)
			if low != wantLow || high != wantHigh {
				t.Errorf("Range(%q, %v): %d, %d, not %d, %d", p, l, low, high, wantLow, wantHigh)
			}
			if n := Count(p, l...); n != wantHigh-wantLow {
				t.Errorf("Count(%q, %v): %d, not %d", p, l, n, wantHigh-wantLow)
			}
		}
	}
}

func TestP501RangeOfLongPatterns(t *testing.T) {
	const n = 300000
	l := append(slices.Repeat([]int{256}, n), 0)
	for _, c := range []struct {
		pattern   string
		low, high int
	}{
		{strings.Repeat("\xff", n), n, n + 1},
		{strings.Repeat("\xff", n-1), n - 1, n + 1},
		{strings.Repeat("\xff", n+1), 0, 0},
		{"\x00" + strings.Repeat("\xff", n-1), 0, 0},
	} {
		if low, high := Range(c.pattern, l...); low != c.low || high != c.high {
			t.Errorf("Range of %d bytes: %d, %d, not %d, %d", len(c.pattern), low, high, c.low, c.high)
		}
	}
	if low, high := Range(strings.Repeat("a", n), 98); low != 0 || high != 1 {
		t.Errorf("Range of %d bytes in a row that leads to itself: %d, %d", n, low, high)
	}
}

func TestP502NaiveByHand(t *testing.T) {
	for _, c := range []struct {
		pattern string
		docs    []string
		want    []api.Row
	}{
		{"a", []string{"aba"}, []api.Row{row(0, 0), row(0, 2)}},
		{"aa", []string{"aaa", "", "aa"}, []api.Row{row(0, 0), row(0, 1), row(2, 0)}},
		{"b", []string{"b", "ab", "a", "bab"}, []api.Row{row(0, 0), row(1, 1), row(3, 0), row(3, 2)}},
		{"ab", []string{"a", "b"}, nil},
		{"abc", []string{"ab"}, nil},
		{"ab", []string{"ab"}, []api.Row{row(0, 0)}},
		{"x", []string{"ab"}, nil},
		{"a", nil, nil},
		{"a", []string{"", ""}, nil},
		{"", nil, nil},
		{"", []string{""}, []api.Row{row(0, 0)}},
		{"", []string{"ab", "", "c"}, []api.Row{row(0, 0), row(0, 1), row(0, 2), row(1, 0), row(2, 0), row(2, 1)}},
		{"", []string{"\u20ac"}, []api.Row{row(0, 0), row(0, 1), row(0, 2), row(0, 3)}},
		{"\x82", []string{"\u20ac"}, []api.Row{row(0, 1)}},
		{"\x00", []string{"\x00\xff\x00", ""}, []api.Row{row(0, 0), row(0, 2)}},
		{"\xff\x00", []string{"\x00\xff\x00\x00"}, []api.Row{row(0, 1)}},
	} {
		if got := Naive(c.pattern, c.docs...); !slices.Equal(got, c.want) {
			t.Errorf("Naive(%q, %q): %v, not %v", c.pattern, c.docs, got, c.want)
		}
	}
}

func TestP502NaiveHasEveryPlaceInOrder(t *testing.T) {
	for _, docs := range documents() {
		for _, p := range patterns(docs) {
			var want []api.Row
			for doc, s := range docs {
				for at := 0; at+len(p) <= len(s); at++ {
					if s[at:at+len(p)] == p {
						want = append(want, row(doc, at))
					}
				}
			}
			if got := Naive(p, docs...); !slices.Equal(got, want) {
				t.Errorf("Naive(%q, %q): %v, not %v", p, docs, got, want)
			}
		}
	}
}

// Naive names no limit, so that it answers of documents too that no version may have.
func TestP502NaiveOfLongAndManyDocuments(t *testing.T) {
	const n = 20000
	long := strings.Repeat("x", n)
	if got := Naive("xx", long); len(got) != n-1 || got[n-2] != row(0, n-2) {
		t.Errorf("Naive in %d bytes: %d", n, len(got))
	}
	if got := Naive(long, long, long+"x"); !slices.Equal(got, []api.Row{row(0, 0), row(1, 0), row(1, 1)}) {
		t.Errorf("Naive of %d bytes: %v", n, got)
	}
	many := slices.Repeat([]string{"ab"}, 3*api.MaxDocs)
	if got := Naive("b", many...); len(got) != len(many) || got[len(many)-1] != row(len(many)-1, 1) {
		t.Errorf("Naive in %d documents: %v", len(many), got)
	}
}

func TestP503RangeHasJustTheRowsThatBeginWithThePattern(t *testing.T) {
	for _, docs := range documents() {
		column, sorted := rows.Symbols(docs...), rows.Sorted(docs...)
		for _, p := range patterns(docs) {
			low, high := Range(p, column...)
			for i, r := range sorted {
				if begins := strings.HasPrefix(docs[r.Doc][r.At:], p); begins != (i >= low && i < high) {
					t.Errorf("Range(%q) of %q: %d, %d, and row %d is %v", p, docs, low, high, i, r)
				}
			}
		}
	}
}

func TestP503RangeHasTheRowsOfNaive(t *testing.T) {
	for _, docs := range documents() {
		column, sorted := rows.Symbols(docs...), rows.Sorted(docs...)
		for _, p := range patterns(docs) {
			low, high := Range(p, column...)
			got := slices.Clone(sorted[low:high])
			slices.SortFunc(got, func(a, b api.Row) int { return (a.Doc-b.Doc)*(api.MaxText+1) + a.At - b.At })
			want := Naive(p, docs...)
			if n := Count(p, column...); !slices.Equal(got, want) || n != len(want) {
				t.Errorf("Range(%q) of %q has %v, Count %d, not %v", p, docs, got, n, want)
			}
		}
	}
}

func TestP503NothingOfDocumentsThatMayNotBe(t *testing.T) {
	for _, docs := range [][]string{{strings.Repeat("x", api.MaxText+1)}, make([]string, api.MaxDocs+1)} {
		for _, p := range []string{"", "x"} {
			if low, high := Range(p, rows.Symbols(docs...)...); low != 0 || high != 0 {
				t.Errorf("Range(%q) of %q: %d, %d", p, docs, low, high)
			}
		}
	}
}

func TestP501P502AnswersAreNewAndNothingIsWritten(t *testing.T) {
	docs := []string{"banana", "", "nan"}
	l := rows.Symbols(docs...)
	keptDocs, kept := slices.Clone(docs), slices.Clone(l)
	first := Naive("an", docs...)
	want := slices.Clone(first)
	clear(first)
	if got := Naive("an", docs...); !slices.Equal(got, want) {
		t.Errorf("Naive a second time: %v, not %v", got, want)
	}
	Range("ana", l...)
	Step(98, 0, len(l), l...)
	Count("ana", l...)
	if !slices.Equal(l, kept) || !slices.Equal(docs, keptDocs) {
		t.Errorf("what was handed in was written: %v, %q", l, docs)
	}
}

package rows

import (
	"math"
	"math/rand"
	"slices"
	"strings"
	"testing"

	"scrinium/api"
)

func row(doc, at int) api.Row { return api.Row{Doc: doc, At: at} }

// key writes a suffix as numbers of which plain order is the order of rows: a terminator's is its document's place, a byte's is above all of these.
func key(l []string, r api.Row) []int {
	var k []int
	for _, b := range []byte(l[r.Doc][r.At:]) {
		k = append(k, len(l)+int(b))
	}
	return append(k, r.Doc)
}

// every tells all rows as they stand, document by document.
func every(l []string) []api.Row {
	var all []api.Row
	for doc, s := range l {
		for at := 0; at <= len(s); at++ {
			all = append(all, row(doc, at))
		}
	}
	return all
}

// naive sorts by drawing the least key again and again.
func naive(l []string) []api.Row {
	left := every(l)
	var out []api.Row
	for len(left) > 0 {
		least := 0
		for i := range left {
			if slices.Compare(key(l, left[i]), key(l, left[least])) < 0 {
				least = i
			}
		}
		out = append(out, left[least])
		left = slices.Delete(left, least, least+1)
	}
	return out
}

// lists are some that are told by hand, and many that are drawn, always the same; all of them may be.
func lists() [][]string {
	full := strings.Repeat("x", api.MaxText)
	l := [][]string{nil, {}, {""}, {"", ""}, {"a"}, {"ab"}, {"ba"}, {"a", "a"}, {"aa", "a"}, {"a", "aa"}, {"b", "a"},
		{"\x00"}, {"\x00\x00", "\x00"}, {"", "\x00"}, {"\x00", ""}, {"\xff", "\x7f\x80", "\x80\x7f"}, {"\x00\xff"}, {"\u00e9\u20ac", "e"},
		{"banana", "anna", "banana", "x", "nan"}, {full}, {full, full}, {full[1:], full}, make([]string, api.MaxDocs), slices.Repeat([]string{full}, api.MaxDocs)}
	draw := rand.New(rand.NewSource(3))
	for i := range 200 {
		letters := []int{1, 2, 3, 256}[i%4]
		docs := make([]string, draw.Intn(api.MaxDocs+1))
		for d := range docs {
			b := make([]byte, draw.Intn(13))
			for j := range b {
				b[j] = byte(draw.Intn(letters))
			}
			docs[d] = string(b)
		}
		l = append(l, docs)
	}
	return l
}

// wrong are lists that may not be.
func wrong() [][]string {
	long := strings.Repeat("x", api.MaxText+1)
	return [][]string{{long}, {"", long}, {long, ""}, {"a", long, "b"}, make([]string, api.MaxDocs+1), append(make([]string, api.MaxDocs), long), slices.Repeat([]string{"ab"}, 3*api.MaxDocs)}
}

func TestP301RightAsksHowManyAndHowLong(t *testing.T) {
	for _, l := range lists() {
		if !Right(l...) {
			t.Errorf("Right(%q): false", l)
		}
	}
	for _, l := range wrong() {
		if Right(l...) {
			t.Errorf("Right(%q): true", l)
		}
	}
	if !Right() || !Right(strings.Repeat("\x00", 40)) || Right(strings.Repeat("\x00", 41)) || !Right(make([]string, 10)...) || Right(make([]string, 11)...) {
		t.Error("Right at the limits")
	}
}

func TestP301LessByHand(t *testing.T) {
	l := []string{"ab", "b", "ab", "", "\xff\x00", "a"}
	for _, c := range []struct {
		why  string
		a, b api.Row
	}{
		{"by its first byte", row(0, 0), row(1, 0)},
		{"by a later byte", row(5, 0), row(0, 0)},
		{"bytes above 127 are great", row(1, 0), row(4, 0)},
		{"byte 0 is less than other bytes", row(4, 1), row(0, 0)},
		{"a terminator is less than byte 0", row(1, 1), row(4, 1)},
		{"a terminator is less, of a later document too", row(5, 1), row(0, 0)},
		{"of two terminators the earlier", row(0, 2), row(1, 1)},
		{"of two terminators the earlier, an empty document's", row(2, 2), row(3, 0)},
		{"of two equal texts the earlier", row(0, 0), row(2, 0)},
		{"of two equal suffixes the earlier, whatever At", row(0, 1), row(1, 0)},
		{"of two equal suffixes the earlier, At less", row(1, 0), row(2, 1)},
		{"within one document", row(0, 2), row(0, 0)},
	} {
		if !Less(l, c.a, c.b) {
			t.Errorf("%s: Less(%v, %v): false", c.why, c.a, c.b)
		}
		if Less(l, c.b, c.a) {
			t.Errorf("%s: Less(%v, %v): true", c.why, c.b, c.a)
		}
	}
}

func TestP301LessIsTheOrderOfKeys(t *testing.T) {
	for _, l := range lists() {
		all := every(l)
		if len(all) > 100 {
			all = all[:100]
		}
		for _, a := range all {
			for _, b := range all {
				if got, want := Less(l, a, b), slices.Compare(key(l, a), key(l, b)) < 0; got != want {
					t.Errorf("Less(%q, %v, %v): %v", l, a, b, got)
				}
			}
		}
	}
}

func TestP301LessIsFalseOfWhatIsNoRow(t *testing.T) {
	l := []string{"b", "", "abc"}
	no := []api.Row{row(-1, 0), row(3, 0), row(0, -1), row(0, 2), row(1, 1), row(1, -1), row(2, 4), row(-1, -1),
		row(math.MaxInt, 0), row(math.MinInt, 0), row(0, math.MaxInt), row(0, math.MinInt)}
	for _, r := range no {
		for _, other := range append(every(l), no...) {
			if Less(l, r, other) || Less(l, other, r) {
				t.Errorf("Less of %v and %v: true", r, other)
			}
		}
	}
	if Less(nil, row(0, 0), row(0, 0)) || Less([]string{}, row(0, 0), row(1, 0)) {
		t.Error("Less of rows of no documents: true")
	}
}

// Less asks for rows alone, so that it answers of lists too that may not be.
func TestP301LessOfLongAndManyDocuments(t *testing.T) {
	long := strings.Repeat("x", 100000)
	l := []string{long, long, long + "y"}
	if !Less(l, row(0, 0), row(1, 0)) || Less(l, row(1, 0), row(0, 0)) || !Less(l, row(1, 0), row(2, 0)) || !Less(l, row(0, 1), row(0, 0)) || Less(l, row(0, 0), row(0, 0)) {
		t.Error("Less of long documents")
	}
	many := make([]string, 100)
	if !Less(many, row(98, 0), row(99, 0)) || Less(many, row(99, 0), row(98, 0)) {
		t.Error("Less of many documents")
	}
}

func TestP301SortedByHand(t *testing.T) {
	for _, c := range []struct {
		l    []string
		want []api.Row
	}{
		{nil, nil},
		{[]string{""}, []api.Row{row(0, 0)}},
		{[]string{"", ""}, []api.Row{row(0, 0), row(1, 0)}},
		{[]string{"ab"}, []api.Row{row(0, 2), row(0, 0), row(0, 1)}},
		{[]string{"aa", "a"}, []api.Row{row(0, 2), row(1, 1), row(0, 1), row(1, 0), row(0, 0)}},
		{[]string{"b", "ab"}, []api.Row{row(0, 1), row(1, 2), row(1, 0), row(0, 0), row(1, 1)}},
		{[]string{"\x00\xff"}, []api.Row{row(0, 2), row(0, 0), row(0, 1)}},
	} {
		if got := Sorted(c.l...); !slices.Equal(got, c.want) {
			t.Errorf("Sorted(%q): %v, not %v", c.l, got, c.want)
		}
	}
}

func TestP301SortedIsAllRowsRising(t *testing.T) {
	for _, l := range lists() {
		if got, want := Sorted(l...), naive(l); !slices.Equal(got, want) {
			t.Errorf("Sorted(%q): %v, not %v", l, got, want)
		}
	}
}

func TestP301SymbolsByHand(t *testing.T) {
	for _, c := range []struct {
		l    []string
		want []int
	}{
		{nil, nil},
		{[]string{"", ""}, []int{0, 0}},
		{[]string{"ab"}, []int{99, 0, 98}},
		{[]string{"aa", "a"}, []int{98, 98, 98, 0, 0}},
		{[]string{"\x00\xff"}, []int{256, 0, 1}},
	} {
		if got := Symbols(c.l...); !slices.Equal(got, c.want) {
			t.Errorf("Symbols(%q): %v, not %v", c.l, got, c.want)
		}
	}
}

func TestP301SymbolsStandAheadOfTheRows(t *testing.T) {
	for _, l := range lists() {
		var want []int
		for _, r := range naive(l) {
			s := 0
			if r.At > 0 {
				s = int(l[r.Doc][r.At-1]) + 1
			}
			want = append(want, s)
		}
		if got := Symbols(l...); !slices.Equal(got, want) {
			t.Errorf("Symbols(%q): %v, not %v", l, got, want)
		}
	}
}

func TestP301NoneOfWrongLists(t *testing.T) {
	for _, l := range wrong() {
		if got := Sorted(l...); len(got) != 0 {
			t.Errorf("Sorted(%q): %v", l, got)
		}
		if got := Symbols(l...); len(got) != 0 {
			t.Errorf("Symbols(%q): %v", l, got)
		}
	}
}

func TestP301AnswersAreNewAndNothingIsWritten(t *testing.T) {
	l := []string{"banana", "anna", "", "nan"}
	kept := slices.Clone(l)
	first, column := Sorted(l...), Symbols(l...)
	want, wantColumn := slices.Clone(first), slices.Clone(column)
	clear(first)
	clear(column)
	if got := Sorted(l...); !slices.Equal(got, want) {
		t.Errorf("Sorted a second time: %v, not %v", got, want)
	}
	if got := Symbols(l...); !slices.Equal(got, wantColumn) {
		t.Errorf("Symbols a second time: %v, not %v", got, wantColumn)
	}
	if !slices.Equal(l, kept) {
		t.Errorf("the documents were written: %q", l)
	}
}

package version

import (
	"fmt"
	"math"
	"math/rand"
	"slices"
	"strings"
	"testing"

	"scrinium/api"
	"scrinium/arena"
	"scrinium/bits"
	"scrinium/bwt"
	"scrinium/list"
	"scrinium/rows"
	"scrinium/table"
	"scrinium/wave"
)

// plain is a version as lists: what its wave, its marks, its spots and its table have.
type plain struct {
	symbols []int
	marks   []bool
	spots   []list.Item
	table   []list.Item
}

// far are numbers that are no handle and no row, up to the ends of int.
func far() []int {
	return []int{-1, -2, -64, api.MaxNodes + 1, 1 << 20, math.MaxInt32, math.MinInt32, math.MaxInt - 1, math.MaxInt, math.MinInt, math.MinInt + 1}
}

func tell(t *testing.T, what string, got, want any) {
	t.Helper()
	if g, w := fmt.Sprint(got), fmt.Sprint(want); g != w {
		t.Errorf("%s: %s, not %s", what, g, w)
	}
}

// collections are documents of every kind: none, empty ones, alike ones, such with all bytes' ends, as many and as long ones
// as may be.
func collections() [][]api.Doc {
	many := make([]api.Doc, api.MaxDocs)
	for i := range many {
		many[i] = api.Doc{Id: 2*i + 1, Text: strings.Repeat("ab"[i%2:i%2+1]+"na", 14)[:api.MaxText-i%3]}
	}
	return [][]api.Doc{
		nil,
		{{Id: 1, Text: ""}},
		{{Id: 7, Text: "a"}},
		{{Id: 3, Text: "banana"}},
		{{Id: 5, Text: "banana"}, {Id: 2, Text: ""}, {Id: 9, Text: "nan"}},
		{{Id: 2, Text: "x"}, {Id: 1, Text: "x"}, {Id: 3, Text: "x"}},
		{{Id: 4, Text: ""}, {Id: 3, Text: ""}},
		{{Id: math.MaxInt, Text: "\x00\xff\x00"}, {Id: 1, Text: "\xff\xfe\x01\x00"}},
		{{Id: 8, Text: "mississippi misses missus"}, {Id: 6, Text: strings.Repeat("a", api.MaxText)}},
		many,
	}
}

// listsOf tells the lists of documents: which of their suffixes is where by sorting keys of whole numbers.
func listsOf(rate int, docs ...api.Doc) plain {
	type suffix struct {
		key     []int
		doc, at int
	}
	var all []suffix
	for doc, d := range docs {
		for at := range len(d.Text) + 1 {
			var key []int
			for _, b := range []byte(d.Text[at:]) {
				key = append(key, 1000+int(b))
			}
			all = append(all, suffix{append(key, doc), doc, at})
		}
	}
	slices.SortFunc(all, func(x, y suffix) int { return slices.Compare(x.key, y.key) })
	var l plain
	for _, x := range all {
		d, s := docs[x.doc], 0
		if x.at > 0 {
			s = int(d.Text[x.at-1]) + 1
		}
		l.symbols = append(l.symbols, s)
		l.marks = append(l.marks, x.at%rate == 0)
		if x.at%rate == 0 {
			l.spots = append(l.spots, list.Item{A: d.Id, B: x.at})
		}
	}
	for _, d := range docs {
		l.table = append(l.table, list.Item{A: d.Id, B: len(d.Text)})
	}
	return l
}

// parts makes the parts of lists; each has one count, for who asked.
func parts(t *testing.T, a *arena.Arena, l plain) Parts {
	t.Helper()
	return Parts{
		Wave:  grown(t, a, l.symbols, wave.Insert),
		Marks: grown(t, a, l.marks, bits.Insert),
		Spots: grown(t, a, l.spots, list.Insert),
		Table: grown(t, a, l.table, list.Insert),
	}
}

// grown makes a part by putting in the second half from its beginning on, then the first half from its end on.
func grown[T any](t *testing.T, a *arena.Arena, l []T, insert func(*arena.Arena, int, int, T) (int, api.Errno)) int {
	t.Helper()
	h := 0
	for n := range l {
		at, from := n, len(l)/2+n
		if from >= len(l) {
			at, from = 0, len(l)-1-n
		}
		g, e := insert(a, h, at, l[from])
		if e != api.OK {
			t.Fatalf("insert at %d: %d", at, e)
		}
		a.Drop(h)
		a.Work(api.MaxNodes)
		h = g
	}
	return h
}

// made makes a version of parts, which it alone has then.
func made(t *testing.T, a *arena.Arena, p Parts) int {
	t.Helper()
	h, e := Make(a, p)
	if e != api.OK {
		t.Fatalf("Make(%v): %d", p, e)
	}
	drop(a, p)
	return h
}

// version makes the version of documents.
func version(t *testing.T, a *arena.Arena, rate int, docs ...api.Doc) int {
	t.Helper()
	return made(t, a, parts(t, a, listsOf(rate, docs...)))
}

func drop(a *arena.Arena, p Parts) {
	for _, h := range p.handles() {
		a.Drop(h)
	}
	a.Work(api.MaxNodes)
}

func (p Parts) handles() [4]int { return [4]int{p.Wave, p.Marks, p.Spots, p.Table} }

func partsOf(kids [4]int) Parts { return Parts{kids[0], kids[1], kids[2], kids[3]} }

func put(t *testing.T, a *arena.Arena, n api.Node) int {
	t.Helper()
	h, e := a.Make(n)
	if e != api.OK {
		t.Fatalf("Make(%v): %d", n, e)
	}
	return h
}

// full uses up all that is free.
func full(t *testing.T, a *arena.Arena) {
	t.Helper()
	for a.Used() < a.Size() {
		put(t, a, api.Node{Tag: api.TagLeaf, A: 1, B: 1})
	}
}

func counts(a *arena.Arena) []int {
	var l []int
	for h := 1; h <= a.Size(); h++ {
		l = append(l, a.Count(h))
	}
	return l
}

func of(a *arena.Arena, h int) any {
	p, is := Of(a, h)
	return []any{p, is}
}

func next(a *arena.Arena, h, i int) any {
	n, is := Next(a, h, i)
	return []any{n, is}
}

func noRow(t *testing.T, what string, a *arena.Arena, h int, more ...int) {
	t.Helper()
	for _, i := range append(far(), more...) {
		tell(t, fmt.Sprintf("%s: Next(%d)", what, i), next(a, h, i), []any{0, false})
	}
}

// empty holds what a version tells of itself against nothing.
func empty(t *testing.T, what string, a *arena.Arena, h int) {
	t.Helper()
	tell(t, what+": Rows, Docs", []int{Rows(a, h), Docs(a, h)}, []int{0, 0})
	noRow(t, what, a, h, 0, 1, 2)
}

// none holds what is told of no version against the same, and that Of and Check tell it.
func none(t *testing.T, what string, a *arena.Arena, h int) {
	t.Helper()
	tell(t, what+": Of", of(a, h), []any{Parts{}, false})
	empty(t, what, a, h)
	for _, docs := range collections() {
		tell(t, what+": Check", Check(a, h, 2, docs...), false)
	}
}

func TestP1201TheExample(t *testing.T) {
	tell(t, "Rows of 0", Rows(arena.New(1), 0), 0)
}

func TestP1201TheEmptyVersion(t *testing.T) {
	a := arena.New(3)
	for range 2 {
		h, e := Make(a, Parts{})
		tell(t, "Make of nothing", []any{h, e, a.Made()}, []any{0, api.OK, a.Used()})
		tell(t, "Of(0)", of(a, 0), []any{Parts{}, true})
		empty(t, "of 0", a, 0)
		full(t, a)
	}
}

func TestP1201MakeIsANodeOfThese(t *testing.T) {
	for _, docs := range collections()[1:] {
		a := arena.New(2000)
		p := parts(t, a, listsOf(2, docs...))
		was, makes := counts(a), a.Made()
		h, e := Make(a, p)
		n, is := a.Get(h)
		tell(t, "Make", []any{e, n, is, a.Count(h), a.Made() - makes}, []any{api.OK, api.Node{Tag: api.TagRoot, Kids: p.handles()}, true, 1, 1})
		tell(t, "Of", of(a, h), []any{p, true})
		was[h-1]++
		for _, kid := range p.handles() {
			was[kid-1]++
		}
		tell(t, "the counts", counts(a), was)
	}
}

// TestP1201ThePartsStayWhoseTheyAre: with the version gone they are there as before; with them given up the version has them.
func TestP1201ThePartsStayWhoseTheyAre(t *testing.T) {
	docs := collections()[4]
	a := arena.New(200)
	p := parts(t, a, listsOf(2, docs...))
	was := counts(a)
	h, _ := Make(a, p)
	a.Drop(h)
	a.Work(api.MaxNodes)
	tell(t, "without the version", counts(a), was)
	h, e := Make(a, p)
	tell(t, "again", []any{e, Check(a, h, 2, docs...)}, []any{api.OK, true})
	drop(a, p)
	tell(t, "of the version alone", []any{Check(a, h, 2, docs...), a.Used()}, []any{true, len(a.Reach(h))})
	for _, kid := range p.handles() {
		tell(t, "the count of a part", a.Count(kid), 1)
	}
	a.Drop(h)
	a.Work(api.MaxNodes)
	tell(t, "with nothing left", []any{a.Used(), of(a, h)}, []any{0, []any{Parts{}, false}})
}

func TestP1201VersionsShareTheirParts(t *testing.T) {
	docs := collections()[4]
	a := arena.New(200)
	h := version(t, a, 2, docs...)
	p, _ := Of(a, h)
	used := a.Used()
	g, e := Make(a, p)
	tell(t, "another one", []any{e, g != h, a.Used() - used, of(a, g)}, []any{api.OK, true, 1, []any{p, true}})
	a.Drop(h)
	a.Work(api.MaxNodes)
	tell(t, "without the first", []any{Check(a, g, 2, docs...), a.Used()}, []any{true, used})
}

// TestP1201EachPartAlone: every choice of parts that are there, also one node as several of them.
func TestP1201EachPartAlone(t *testing.T) {
	for _, same := range []bool{false, true} {
		for which := 1; which < 16; which++ {
			a := arena.New(10)
			var kids [4]int
			one := put(t, a, api.Node{Tag: api.TagLeaf, A: 1, B: 1})
			want := map[int]int{}
			for i := range kids {
				if which>>i&1 == 0 {
					continue
				}
				kids[i] = one
				if !same {
					kids[i] = put(t, a, api.Node{Tag: api.TagItem, A: uint64(i)})
				}
				want[kids[i]]++
			}
			h, e := Make(a, partsOf(kids))
			n, _ := a.Get(h)
			tell(t, fmt.Sprint("Make of ", kids), []any{e, n, of(a, h)}, []any{api.OK, api.Node{Tag: api.TagRoot, Kids: kids}, []any{partsOf(kids), true}})
			for kid, n := range want {
				tell(t, "the count of a part", a.Count(kid), 1+n)
			}
		}
	}
}

func TestP1201ErrHandle(t *testing.T) {
	for _, room := range []bool{true, false} {
		a := arena.New(12)
		x := put(t, a, api.Node{Tag: api.TagItem, A: 5})
		free := put(t, a, api.Node{Tag: api.TagItem, A: 6})
		a.Drop(free)
		a.Work(1)
		waits := put(t, a, api.Node{Tag: api.TagItem, A: 7})
		bad := append(far(), 13)
		if room {
			bad = append(bad, waits+1, 12)
		} else {
			full(t, a)
		}
		a.Drop(waits)
		was, makes := counts(a), a.Made()
		for i := range 4 {
			for _, h := range append(bad, waits) {
				for _, others := range []int{0, x} {
					kids := [4]int{others, others, others, others}
					kids[i] = h
					g, e := Make(a, partsOf(kids))
					tell(t, fmt.Sprint("Make of ", kids), []any{g, e}, []any{0, api.ErrHandle})
				}
			}
		}
		tell(t, "the counts, made", []any{counts(a), a.Made()}, []any{was, makes})
	}
}

func TestP1201ErrFull(t *testing.T) {
	a := arena.New(60)
	p := parts(t, a, listsOf(3, collections()[3]...))
	full(t, a)
	was, makes := counts(a), a.Made()
	for _, x := range []Parts{p, {Wave: p.Wave}, {Marks: p.Marks}, {Spots: p.Spots}, {Table: p.Table}} {
		h, e := Make(a, x)
		tell(t, "Make", []any{h, e}, []any{0, api.ErrFull})
	}
	tell(t, "the counts, made", []any{counts(a), a.Made()}, []any{was, makes})
	a.Drop(60)
	h, e := Make(a, p)
	tell(t, "what waits is no room", []any{h, e}, []any{0, api.ErrFull})
	a.Work(1)
	h, e = Make(a, p)
	tell(t, "one is room enough", []any{h, e}, []any{60, api.OK})
}

func TestP1201RowsAndDocs(t *testing.T) {
	for _, docs := range collections() {
		a := arena.New(3000)
		h := version(t, a, 4, docs...)
		n := len(docs)
		for _, d := range docs {
			n += len(d.Text)
		}
		tell(t, fmt.Sprint("Rows, Docs of ", docs), []int{Rows(a, h), Docs(a, h)}, []int{n, len(docs)})
	}
}

// TestP1201RowsIsOfTheWaveAndDocsOfTheTable: each by its part, whatever the others are.
func TestP1201RowsIsOfTheWaveAndDocsOfTheTable(t *testing.T) {
	a := arena.New(200)
	l := listsOf(2, collections()[4]...)
	p := parts(t, a, l)
	for _, x := range []struct {
		p          Parts
		rows, docs int
	}{{Parts{Wave: p.Wave}, 12, 0}, {Parts{Marks: p.Marks}, 0, 0}, {Parts{Spots: p.Spots}, 0, 0}, {Parts{Table: p.Table}, 0, 3}, {Parts{Table: p.Spots, Wave: p.Wave}, 12, 7}} {
		h, _ := Make(a, x.p)
		tell(t, fmt.Sprint(x.p), []int{Rows(a, h), Docs(a, h)}, []int{x.rows, x.docs})
	}
}

func TestP1201NextLeadsToTheRowThatIsOneByteLonger(t *testing.T) {
	for _, docs := range collections() {
		a := arena.New(3000)
		h := version(t, a, 4, docs...)
		var l []string
		for _, d := range docs {
			l = append(l, d.Text)
		}
		sorted := rows.Sorted(l...)
		for i, r := range sorted {
			j, is := Next(a, h, i)
			switch {
			case r.At == 0:
				tell(t, "Next of a whole text", []any{j, is}, []any{0, false})
			case !is || j < 0 || j >= len(sorted) || sorted[j] != (api.Row{Doc: r.Doc, At: r.At - 1}):
				t.Fatalf("%v: Next of row %d, %v: %d %v", l, i, r, j, is)
			}
		}
		noRow(t, "beyond", a, h, len(sorted), len(sorted)+1)
	}
}

// TestP1201NextAsOfTheColumn: of any symbols, also such as no documents have.
func TestP1201NextAsOfTheColumn(t *testing.T) {
	r := rand.New(rand.NewSource(1201))
	for n := range 40 {
		a := arena.New(2000)
		var l []int
		for range n * n / 6 {
			s := r.Intn(api.Symbols)
			if n%2 == 0 {
				s = []int{0, 1, 97, 128, 255, 256}[r.Intn(6)]
			}
			l = append(l, s)
		}
		p := Parts{Wave: grown(t, a, l, wave.Insert), Table: put(t, a, api.Node{Tag: api.TagItem})}
		h := made(t, a, p)
		for i := -2; i < len(l)+2; i++ {
			j, is := bwt.Next(i, l...)
			tell(t, fmt.Sprintf("Next(%d) of %v", i, l), next(a, h, i), []any{j, is})
		}
	}
}

func TestP1201NextReadsATextBackwards(t *testing.T) {
	docs := collections()[9]
	a := arena.New(3000)
	h := version(t, a, 16, docs...)
	p, _ := Of(a, h)
	for i, d := range docs {
		var text []byte
		row, more := i, true
		for more {
			s, _ := wave.Get(a, p.Wave, row)
			if row, more = Next(a, h, row); more {
				text = append(text, byte(s-1))
			}
		}
		slices.Reverse(text)
		tell(t, "the text", string(text), d.Text)
	}
}

func TestP1201AHandleThatIsNone(t *testing.T) {
	a := arena.New(100)
	x := put(t, a, api.Node{Tag: api.TagItem, A: 7, B: 3})
	for _, h := range append(far(), x+1, 99, 100, 101) {
		none(t, fmt.Sprint("of ", h), a, h)
	}
	right := parts(t, a, listsOf(2, collections()[2]...)).handles()
	for _, n := range []api.Node{
		{Tag: api.TagLeaf, A: 1, B: 1}, {Tag: api.TagFork, Kids: right}, {Tag: api.TagWave, Kids: right}, {Tag: api.TagItem, Kids: right},
		{Tag: api.TagJoin, Kids: right}, {Tag: api.TagRoot, Kids: right, A: 1}, {Tag: api.TagRoot, Kids: right, B: 1}, {Tag: api.TagRoot, A: 1 << 63},
	} {
		h := put(t, a, n)
		none(t, fmt.Sprint("of ", n), a, h)
		a.Drop(h)
		a.Work(1)
	}
	for _, kid := range right {
		none(t, "of a part", a, kid)
	}
	h := put(t, a, api.Node{Tag: api.TagRoot, Kids: right})
	tell(t, "of one that is right", Check(a, h, 2, collections()[2]...), true)
	a.Drop(h)
	none(t, "of one that waits", a, h)
	a.Work(1)
	none(t, "of one that is free", a, h)
}

func TestP1201NoArena(t *testing.T) {
	for what, a := range map[string]*arena.Arena{"nil": nil, "zero": {}} {
		h, e := Make(a, Parts{})
		tell(t, what+": Make of nothing", []any{h, e}, []any{0, api.OK})
		for _, x := range []Parts{{Wave: 1}, {Marks: 1}, {Spots: 2}, {Table: 3}, {1, 2, 3, 4}, {Table: -1}} {
			h, e = Make(a, x)
			tell(t, what+": Make", []any{h, e}, []any{0, api.ErrFull})
		}
		tell(t, what+": Of(0)", of(a, 0), []any{Parts{}, true})
		empty(t, what, a, 0)
		tell(t, what+": Check of none", []bool{Check(a, 0, 1), Check(a, 0, 0), Check(a, 0, 17)}, []bool{true, false, false})
		tell(t, what+": Check of some", Check(a, 0, 1, api.Doc{Id: 1}), false)
	}
}

// TestP1201NoArenaHasNoVersion: where there is no node, none is live, and each handle but 0 is none.
func TestP1201NoArenaHasNoVersion(t *testing.T) {
	for what, a := range map[string]*arena.Arena{"nil": nil, "zero": {}} {
		for _, h := range append(far(), 1, 2, 5, api.MaxNodes) {
			none(t, what, a, h)
		}
	}
}

// TestP1201PartsThatAreNone: each is as its package has it, and nothing panics.
func TestP1201PartsThatAreNone(t *testing.T) {
	a := arena.New(300)
	docs := collections()[4]
	p := parts(t, a, listsOf(2, docs...)).handles()
	for turn := 1; turn < 4; turn++ {
		var kids [4]int
		for i := range kids {
			kids[i] = p[(i+turn)%4]
		}
		h, e := Make(a, partsOf(kids))
		tell(t, "Make, Of", []any{e, of(a, h)}, []any{api.OK, []any{partsOf(kids), true}})
		tell(t, "Rows, Docs", []int{Rows(a, h), Docs(a, h)}, []int{wave.Len(a, kids[0]), table.Len(a, kids[3])})
		noRow(t, "turned", a, h, 0, 1, 5)
		for _, docs := range collections() {
			tell(t, "Check", Check(a, h, 2, docs...), false)
		}
	}
}

// TestP1202EachRate: it is the version of each rate by which the same rows are marked, and of no other one.
func TestP1202EachRate(t *testing.T) {
	for _, docs := range collections() {
		a := arena.New(3000)
		for rate := 1; rate <= api.MaxRate; rate++ {
			h := version(t, a, rate, docs...)
			for other := 1; other <= api.MaxRate; other++ {
				want := slices.Equal(listsOf(rate, docs...).marks, listsOf(other, docs...).marks)
				if is := Check(a, h, other, docs...); is != want {
					t.Errorf("Check by %d of one by %d of %v: %v", other, rate, docs, is)
				}
			}
			for _, other := range append(far(), 0, api.MaxRate+1, api.MaxRate+rate, -rate) {
				if Check(a, h, other, docs...) {
					t.Errorf("Check by %d of %v", other, docs)
				}
			}
			a.Drop(h)
			a.Work(api.MaxNodes)
		}
	}
}

func TestP1202NoRateOfTheEmptyVersion(t *testing.T) {
	a := arena.New(1)
	for rate := -20; rate < 40; rate++ {
		tell(t, fmt.Sprint("Check(0) by ", rate), Check(a, 0, rate), rate >= 1 && rate <= api.MaxRate)
	}
}

// others are all lists of documents that are one change away: another order, another number, one more, one less, a byte more,
// less, turned.
func others(docs []api.Doc) [][]api.Doc {
	var l [][]api.Doc
	with := func(i int, d api.Doc) { l = append(l, slices.Replace(slices.Clone(docs), i, i+1, d)) }
	for i, d := range docs {
		l = append(l, slices.Delete(slices.Clone(docs), i, i+1))
		for j := range i {
			x := slices.Clone(docs)
			x[i], x[j] = x[j], x[i]
			l = append(l, x)
			with(i, api.Doc{Id: docs[j].Id, Text: d.Text})
		}
		for _, id := range []int{d.Id - 1, d.Id + 1, 0, -d.Id, 77} {
			with(i, api.Doc{Id: id, Text: d.Text})
		}
		for _, text := range []string{d.Text + "\x00", "a" + d.Text, d.Text + d.Text + "b", strings.Repeat("z", api.MaxText+1)} {
			with(i, api.Doc{Id: d.Id, Text: text})
		}
		for at := range d.Text {
			with(i, api.Doc{Id: d.Id, Text: d.Text[:at] + d.Text[at+1:]})
			for _, bit := range []int{0, 7} {
				b := []byte(d.Text)
				b[at] ^= 1 << bit
				with(i, api.Doc{Id: d.Id, Text: string(b)})
			}
		}
	}
	for i := range len(docs) + 1 {
		for _, text := range []string{"", "a", "banana"} {
			l = append(l, slices.Insert(slices.Clone(docs), i, api.Doc{Id: 78, Text: text}))
		}
	}
	return l
}

func TestP1202OtherDocuments(t *testing.T) {
	a := arena.New(6000)
	for _, docs := range collections() {
		h := version(t, a, 3, docs...)
		tell(t, fmt.Sprint("Check of ", docs), Check(a, h, 3, docs...), true)
		for _, x := range others(docs) {
			if Check(a, h, 3, x...) {
				t.Errorf("the version of %v is that of %v", docs, x)
			}
		}
		for _, x := range collections() {
			if Check(a, h, 3, x...) != slices.Equal(x, docs) {
				t.Errorf("the version of %v as that of %v", docs, x)
			}
		}
	}
}

func TestP1202AllOrders(t *testing.T) {
	docs := []api.Doc{{Id: 1, Text: "ab"}, {Id: 2, Text: ""}, {Id: 3, Text: "ab"}, {Id: 4, Text: "b"}}
	a := arena.New(1000)
	h := version(t, a, 2, docs...)
	for n := range 256 {
		x := []api.Doc{docs[n&3], docs[n>>2&3], docs[n>>4&3], docs[n>>6&3]}
		tell(t, fmt.Sprint("Check of ", x), Check(a, h, 2, x...), slices.Equal(x, docs))
	}
}

// spoiled are all that are one change away from lists, in one part of them.
func spoiled(l plain) []plain {
	var all []plain
	for _, x := range changed(l.symbols, func(s int) []int { return []int{(s + 1) % api.Symbols, (s + 255) % api.Symbols, 0} }) {
		all = append(all, plain{x, l.marks, l.spots, l.table})
	}
	for _, x := range changed(l.marks, func(one bool) []bool { return []bool{!one} }) {
		all = append(all, plain{l.symbols, x, l.spots, l.table})
	}
	turn := func(x list.Item) []list.Item {
		return []list.Item{{A: x.A - 1, B: x.B}, {A: x.A, B: x.B + 1}, {A: x.A, B: max(0, x.B-1)}, {A: x.B, B: x.A}}
	}
	for _, x := range changed(l.spots, turn) {
		all = append(all, plain{l.symbols, l.marks, x, l.table})
	}
	for _, x := range changed(l.table, turn) {
		all = append(all, plain{l.symbols, l.marks, l.spots, x})
	}
	return all
}

// changed are the lists that are one change away: none, one less, one more, two the other way around, one that is turned.
func changed[T comparable](l []T, turn func(T) []T) [][]T {
	all := [][]T{nil}
	for i, x := range l {
		all = append(all, slices.Delete(slices.Clone(l), i, i+1), slices.Insert(slices.Clone(l), i, x))
		if i > 0 {
			y := slices.Clone(l)
			y[i], y[i-1] = y[i-1], y[i]
			all = append(all, y)
		}
		for _, z := range turn(x) {
			all = append(all, slices.Replace(slices.Clone(l), i, i+1, z))
		}
	}
	return slices.DeleteFunc(all, func(x []T) bool { return slices.Equal(x, l) })
}

func TestP1202EachPartIsHeldToItsPlaceAndItsItems(t *testing.T) {
	a := arena.New(3000)
	for _, docs := range collections()[1:8] {
		for _, x := range spoiled(listsOf(2, docs...)) {
			h := made(t, a, parts(t, a, x))
			if Check(a, h, 2, docs...) {
				t.Errorf("%v is the version of %v", x, docs)
			}
			a.Drop(h)
			a.Work(api.MaxNodes)
		}
	}
}

// TestP1202DocumentsThatMayNotBe: no version is theirs, also where somebody put together what their lists would be.
func TestP1202DocumentsThatMayNotBe(t *testing.T) {
	eleven := make([]api.Doc, api.MaxDocs+1)
	for i := range eleven {
		eleven[i].Id = i + 1
	}
	for _, docs := range [][]api.Doc{
		eleven,
		{{Id: 1, Text: strings.Repeat("x", api.MaxText+1)}},
		{{Id: 0, Text: "ab"}},
		{{Id: 2, Text: "ab"}, {Id: 0, Text: ""}},
		{{Id: 2, Text: "ab"}, {Id: 2, Text: "ab"}},
		{{Id: 2, Text: "ab"}, {Id: 1, Text: "ab"}, {Id: 2, Text: "c"}},
	} {
		a := arena.New(1000)
		l := listsOf(2, docs...)
		h := made(t, a, parts(t, a, l))
		alone := made(t, a, parts(t, a, plain{table: l.table}))
		tell(t, fmt.Sprint("Check of ", docs), []bool{Check(a, h, 2, docs...), Check(a, alone, 2, docs...), Check(a, 0, 2, docs...)}, []bool{false, false, false})
	}
	a := arena.New(100)
	h := version(t, a, 2, api.Doc{Id: 1, Text: "ab"})
	tell(t, "a number below 1", []bool{Check(a, h, 2, api.Doc{Id: -1, Text: "ab"}), Check(a, h, 2, api.Doc{Id: math.MinInt, Text: "ab"})}, []bool{false, false})
	tell(t, "just as many, just as long", []bool{Check(a, 0, 2, eleven[:api.MaxDocs]...), Check(a, version(t, a, 2, eleven[:api.MaxDocs]...), 2, eleven[:api.MaxDocs]...)}, []bool{false, true})
}

func TestP1202NoDocuments(t *testing.T) {
	a := arena.New(100)
	tell(t, "0", Check(a, 0, 5), true)
	tell(t, "0 of an empty one", Check(a, 0, 5, api.Doc{Id: 1}), false)
	one := version(t, a, 5, api.Doc{Id: 1})
	tell(t, "of an empty one", []bool{Check(a, one, 5), Check(a, one, 5, api.Doc{Id: 1})}, []bool{false, true})
	tell(t, "a root of nothing", Check(a, put(t, a, api.Node{Tag: api.TagRoot}), 5), true)
	waits := put(t, a, api.Node{Tag: api.TagLeaf})
	for i := range 4 {
		var kids [4]int
		kids[i] = waits
		h := put(t, a, api.Node{Tag: api.TagRoot, Kids: kids})
		tell(t, "a root of what is none", []any{Check(a, h, 5), Rows(a, h), Docs(a, h)}, []any{false, 0, 0})
	}
}

// TestP1202HoweverItsTreesStand: the version is what its parts tell, not how they are put together.
func TestP1202HoweverItsTreesStand(t *testing.T) {
	docs := collections()[9]
	a := arena.New(api.MaxNodes)
	l := listsOf(3, docs...)
	p := parts(t, a, l)
	m, e := bits.Build(a, l.marks...)
	var s, w int
	for i, x := range slices.Backward(l.spots) {
		g, _ := list.Insert(a, s, 0, list.Item{A: x.A, B: i})
		f, _ := list.Set(a, g, 0, x)
		drop(a, Parts{Wave: s, Marks: g})
		s = f
	}
	for _, x := range slices.Backward(l.symbols) {
		g, _ := wave.Insert(a, w, 0, x)
		a.Drop(w)
		a.Work(api.MaxNodes)
		w = g
	}
	h := made(t, a, Parts{w, m, s, p.Table})
	tell(t, "Check", []any{e, Check(a, h, 3, docs...), Rows(a, h), Docs(a, h)}, []any{api.OK, true, len(l.symbols), len(docs)})
}

func TestP1202CheckLeavesAllAsItIs(t *testing.T) {
	a := arena.New(3000)
	docs := slices.Clone(collections()[9])
	h := version(t, a, 3, docs...)
	was, makes := counts(a), a.Made()
	tell(t, "Check", []bool{Check(a, h, 3, docs...), Check(a, h, 2, docs...), Check(a, 0, 3, docs...)}, []bool{true, false, false})
	tell(t, "the arena", []any{counts(a), a.Made()}, []any{was, makes})
	tell(t, "the documents", docs, collections()[9])
	full(t, a)
	tell(t, "Check, full", []any{Check(a, h, 3, docs...), Rows(a, h)}, []any{true, len(listsOf(3, docs...).symbols)})
}

// vast are parts that are below themselves again and again: more rows than anybody can look at.
func vast(t *testing.T, a *arena.Arena) Parts {
	t.Helper()
	row := put(t, a, api.Node{Tag: api.TagLeaf, A: 0, B: 1})
	items := put(t, a, api.Node{Tag: api.TagItem, A: 1, B: 1})
	n := uint64(1)
	for range 40 {
		n *= 2
		row = put(t, a, api.Node{Tag: api.TagFork, Kids: [4]int{row, row}, A: n})
		items = put(t, a, api.Node{Tag: api.TagJoin, Kids: [4]int{items, items}, A: n})
	}
	symbols := 0
	for range api.Levels {
		symbols = put(t, a, api.Node{Tag: api.TagWave, Kids: [4]int{row, symbols}})
	}
	return Parts{symbols, row, items, items}
}

func TestP1202VastOnesEnd(t *testing.T) {
	a := arena.New(3000)
	big := vast(t, a)
	h, e := Make(a, big)
	tell(t, "Make, Rows, Docs", []any{e, Rows(a, h), Docs(a, h)}, []any{api.OK, 1 << 40, 1 << 40})
	tell(t, "Next", next(a, h, 1<<39), []any{0, false})
	for _, docs := range collections() {
		small := parts(t, a, listsOf(2, docs...)).handles()
		for i := range 4 {
			kids := small
			kids[i] = big.handles()[i]
			g, e := Make(a, partsOf(kids))
			tell(t, "Make, Check", []any{e, Check(a, g, 2, docs...), Check(a, h, 2, docs...)}, []any{api.OK, false, false})
			a.Drop(g)
		}
		drop(a, partsOf(small))
	}
}

// TestP1202FalseOnesEnd: parts that tell a length which they do not have.
func TestP1202FalseOnesEnd(t *testing.T) {
	docs := []api.Doc{{Id: 1, Text: ""}, {Id: 2, Text: ""}, {Id: 3, Text: ""}}
	a := arena.New(1000)
	right := parts(t, a, listsOf(1, docs...)).handles()
	item := put(t, a, api.Node{Tag: api.TagItem, A: 1})
	lie := put(t, a, api.Node{Tag: api.TagJoin, A: 2})
	join := put(t, a, api.Node{Tag: api.TagJoin, Kids: [4]int{item, lie}, A: 3})
	leaf := put(t, a, api.Node{Tag: api.TagLeaf, A: 1, B: 1})
	under := put(t, a, api.Node{Tag: api.TagFork, A: 2, B: 2})
	fork := put(t, a, api.Node{Tag: api.TagFork, Kids: [4]int{leaf, under}, A: 3, B: 3})
	row := put(t, a, api.Node{Tag: api.TagLeaf, B: 3})
	last := put(t, a, api.Node{Tag: api.TagWave, Kids: [4]int{row}})
	for i, kid := range []int{last, fork, join, join} {
		kids := right
		kids[i] = kid
		h, e := Make(a, partsOf(kids))
		tell(t, "Make, Check", []any{e, Check(a, h, 1, docs...)}, []any{api.OK, false})
		noRow(t, "Next", a, h, 0, 1, 2, 3)
	}
	h, _ := Make(a, partsOf(right))
	tell(t, "with all of them right", Check(a, h, 1, docs...), true)
}

func TestP1202DrawnDocuments(t *testing.T) {
	r := rand.New(rand.NewSource(1202))
	for range 60 {
		a := arena.New(api.MaxNodes)
		draw := func() []api.Doc {
			var docs []api.Doc
			for _, id := range r.Perm(3)[:r.Intn(4)] {
				b := make([]byte, r.Intn(3))
				for i := range b {
					b[i] = "ab"[r.Intn(2)]
				}
				docs = append(docs, api.Doc{Id: id + 1, Text: string(b)})
			}
			return docs
		}
		docs, rate := draw(), 1+r.Intn(3)
		h := version(t, a, rate, docs...)
		if !Check(a, h, rate, docs...) {
			t.Fatalf("Check of %v by %d", docs, rate)
		}
		for range 100 {
			if x := draw(); Check(a, h, rate, x...) != slices.Equal(x, docs) {
				t.Fatalf("the version of %v as that of %v", docs, x)
			}
		}
	}
}

package cut

import (
	"fmt"
	"math"
	"math/rand"
	"slices"
	"strings"
	"testing"

	"scrinium/api"
	"scrinium/arena"
	"scrinium/bits"
	"scrinium/list"
	"scrinium/put"
	"scrinium/table"
	"scrinium/version"
	"scrinium/wave"
)

// plain is a version, or what is half made of one, as lists: what its wave, its marks, its spots and its table have.
type plain struct {
	symbols []int
	marks   []bool
	spots   []list.Item
	table   []list.Item
}

// far are numbers that are no handle, up to the ends of int.
func far() []int {
	return []int{-1, -2, -64, api.MaxNodes + 1, 1 << 20, math.MaxInt32, math.MinInt32, math.MaxInt - 1, math.MaxInt, math.MinInt, math.MinInt + 1}
}

func tell(t *testing.T, what string, got, want any) {
	t.Helper()
	if g, w := fmt.Sprint(got), fmt.Sprint(want); g != w {
		t.Errorf("%s: %s, not %s", what, g, w)
	}
}

// collections are documents of every kind: one, empty ones, alike ones, such with all bytes' ends, as many and as long ones as
// may be.
func collections() [][]api.Doc {
	many := make([]api.Doc, api.MaxDocs)
	for i := range many {
		many[i] = api.Doc{Id: 2*i + 1, Text: strings.Repeat("ab"[i%2:i%2+1]+"na", 14)[:api.MaxText-3*i]}
	}
	return [][]api.Doc{
		{{Id: 1, Text: ""}},
		{{Id: 7, Text: "a"}},
		{{Id: 4, Text: "banana"}},
		{{Id: 5, Text: "banana"}, {Id: 2, Text: ""}, {Id: 9, Text: "nan"}},
		{{Id: 2, Text: "x"}, {Id: 1, Text: "x"}, {Id: 3, Text: "x"}},
		{{Id: 6, Text: ""}, {Id: 4, Text: ""}},
		{{Id: math.MaxInt, Text: "\x00\xff\x00"}, {Id: 1, Text: "\xff\xfe\x01\x00"}, {Id: 2, Text: "\x00"}},
		{{Id: 8, Text: "mississippi misses missus"}, {Id: 6, Text: strings.Repeat("a", api.MaxText)}, {Id: 7, Text: "aaa"}},
		many,
	}
}

// without are the documents but one.
func without(docs []api.Doc, i int) []api.Doc {
	return slices.Delete(slices.Clone(docs), i, i+1)
}

// suffix is one by a key of whole numbers.
type suffix struct {
	key     []int
	doc, at int
}

// sorted are the suffixes of documents.
func sorted(docs ...api.Doc) []suffix {
	var all []suffix
	for doc, d := range docs {
		for at := 0; at <= len(d.Text); at++ {
			var key []int
			for _, b := range []byte(d.Text[at:]) {
				key = append(key, 1000+int(b))
			}
			all = append(all, suffix{append(key, doc), doc, at})
		}
	}
	slices.SortFunc(all, func(x, y suffix) int { return slices.Compare(x.key, y.key) })
	return all
}

// rowsOf are the rows of one of the documents, rising.
func rowsOf(doc int, docs ...api.Doc) []int {
	var l []int
	for i, x := range sorted(docs...) {
		if x.doc == doc {
			l = append(l, i)
		}
	}
	return l
}

// halfway tells the lists of documents, where of one of them so many rows are out, the greatest first.
func halfway(rate, doc, gone int, docs ...api.Doc) plain {
	all := sorted(docs...)
	for i := len(all) - 1; gone > 0; i-- {
		if all[i].doc == doc {
			all, gone = slices.Delete(all, i, i+1), gone-1
		}
	}
	var l plain
	for _, x := range all {
		d, s := docs[x.doc], 0
		if x.at > 0 {
			s = int(d.Text[x.at-1]) + 1
		}
		l.symbols = append(l.symbols, s)
		l.marks = append(l.marks, x.at%rate == 0)
		if x.at%rate == 0 {
			l.spots = append(l.spots, list.Item{A: d.Id, B: x.at})
		}
	}
	for _, d := range docs {
		l.table = append(l.table, list.Item{A: d.Id, B: len(d.Text)})
	}
	return l
}

func listsOf(rate int, docs ...api.Doc) plain { return halfway(rate, 0, 0, docs...) }

// found tells the lists that parts have.
func found(a *arena.Arena, p version.Parts) plain {
	return plain{wave.All(a, p.Wave), bits.All(a, p.Marks), list.All(a, p.Spots), list.All(a, p.Table)}
}

// built makes a version of lists, which has one count, for who asked, and its parts none but its own.
func built(t *testing.T, a *arena.Arena, l plain) int {
	t.Helper()
	p := version.Parts{
		Wave:  grown(t, a, l.symbols, wave.Insert),
		Marks: grown(t, a, l.marks, bits.Insert),
		Spots: grown(t, a, l.spots, list.Insert),
		Table: grown(t, a, l.table, list.Insert),
	}
	h, e := version.Make(a, p)
	if e != api.OK {
		t.Fatalf("Make(%v): %d", p, e)
	}
	drop(a, p.Wave, p.Marks, p.Spots, p.Table)
	return h
}

func grown[T any](t *testing.T, a *arena.Arena, l []T, insert func(*arena.Arena, int, int, T) (int, api.Errno)) int {
	t.Helper()
	h := 0
	for i, x := range l {
		g, e := insert(a, h, i, x)
		if e != api.OK {
			t.Fatalf("insert at %d: %d", i, e)
		}
		drop(a, h)
		h = g
	}
	return h
}

func drop(a *arena.Arena, l ...int) {
	for _, h := range l {
		a.Drop(h)
	}
	a.Work(api.MaxNodes)
}

func node(t *testing.T, a *arena.Arena, n api.Node) int {
	t.Helper()
	h, e := a.Make(n)
	if e != api.OK {
		t.Fatalf("Make(%v): %d", n, e)
	}
	return h
}

// room leaves just so many that are free.
func room(t *testing.T, a *arena.Arena, n int) {
	t.Helper()
	for a.Size()-a.Used() > n {
		node(t, a, api.Node{Tag: api.TagLeaf, A: 1, B: 1})
	}
}

func counts(a *arena.Arena) []int {
	var l []int
	for h := 1; h <= a.Size(); h++ {
		l = append(l, a.Count(h))
	}
	return l
}

// begun is New, where nothing is wrong.
func begun(t *testing.T, a *arena.Arena, root, rate, id int) *Cut {
	t.Helper()
	c, e := New(a, root, rate, id)
	if c == nil || e != api.OK {
		t.Fatalf("New(%d, %d, %d): %d", root, rate, id, e)
	}
	return c
}

// goOn does so many Steps, none of which is the last.
func goOn(t *testing.T, c *Cut, n int) {
	t.Helper()
	for range n {
		if over, e := c.Step(); over || e != api.OK {
			t.Fatalf("Step: %v %d", over, e)
		}
	}
}

// toTheEnd does all Steps: the version.
func toTheEnd(t *testing.T, a *arena.Arena, c *Cut) int {
	t.Helper()
	for c.Left() > 1 {
		goOn(t, c, 1)
		a.Work(api.MaxNodes)
	}
	over, e := c.Step()
	if !over || e != api.OK {
		t.Fatalf("the last Step: %v %d", over, e)
	}
	a.Work(api.MaxNodes)
	return c.Root()
}

// over holds what a Cut tells that is over.
func over(t *testing.T, what string, c *Cut, root int) {
	t.Helper()
	for range 2 {
		is, e := c.Step()
		tell(t, what+": Step, Root, Left, Held", []any{is, e, c.Root(), c.Left(), c.Held()}, []any{true, api.ErrIdle, root, 0, []int{}})
		c.Stop()
	}
}

// counted tells whether each live node's count is how often it is below another one, and how often somebody has it.
func counted(a *arena.Arena, held ...int) bool {
	want := make([]int, a.Size()+1)
	for h := range want {
		n, _ := a.Get(h)
		for _, kid := range n.Kids {
			want[kid]++
		}
	}
	for _, h := range held {
		want[h]++
	}
	return slices.Equal(counts(a), want[1:])
}

func refused(t *testing.T, what string, a *arena.Arena, root, rate, id int, want api.Errno) {
	t.Helper()
	was := counts(a)
	c, e := New(a, root, rate, id)
	tell(t, what, []any{c == nil, e}, []any{true, want})
	tell(t, what+": the counts", counts(a), was)
}

func partsOf(a *arena.Arena, h int) version.Parts {
	v, _ := version.Of(a, h)
	return v
}

func TestP1401TheExample(t *testing.T) {
	a := arena.New(100)
	tell(t, "Left", begun(t, a, built(t, a, listsOf(1, api.Doc{Id: 1, Text: "a"})), 1, 1).Left(), 5)
}

func TestP1401NewRefuses(t *testing.T) {
	a := arena.New(2000)
	docs := []api.Doc{{Id: 3, Text: "ab"}, {Id: math.MaxInt, Text: ""}}
	h := built(t, a, listsOf(2, docs...))
	for what, none := range map[string]*arena.Arena{"nil": nil, "zero": {}} {
		for _, root := range append(far(), 0, 1) {
			refused(t, what+" arena", none, root, 2, 3, api.ErrArg)
		}
	}
	v := partsOf(a, h)
	waits, gone := built(t, a, listsOf(2, docs...)), built(t, a, listsOf(2, docs...))
	drop(a, gone)
	a.Drop(waits)
	for _, root := range append(far(), v.Wave, v.Marks, v.Spots, v.Table, waits, gone, a.Size(), a.Size()+1) {
		refused(t, fmt.Sprint("the root ", root), a, root, 2, 3, api.ErrArg)
	}
	for _, rate := range append(far(), 0, api.MaxRate+1) {
		refused(t, fmt.Sprint("the rate ", rate), a, h, rate, 3, api.ErrArg)
		refused(t, fmt.Sprint("the rate ", rate, " of none"), a, 0, rate, 3, api.ErrArg)
		refused(t, fmt.Sprint("the rate ", rate, ", ahead of the number"), a, h, rate, 0, api.ErrArg)
	}
	refused(t, "the root, ahead of the number", a, v.Wave, 2, 4, api.ErrArg)
	refused(t, "no arena, ahead of the number", nil, 0, 2, 4, api.ErrArg)
}

func TestP1401NewFindsNone(t *testing.T) {
	a := arena.New(2000)
	docs := []api.Doc{{Id: 3, Text: "ab"}, {Id: math.MaxInt, Text: ""}}
	h := built(t, a, listsOf(2, docs...))
	for _, id := range []int{1, 2, 4, math.MaxInt - 1, 0, -1, -3, math.MinInt, math.MinInt + 1} {
		refused(t, fmt.Sprint("the number ", id), a, h, 2, id, api.ErrNone)
		refused(t, fmt.Sprint("the number ", id, " of none"), a, 0, 2, id, api.ErrNone)
	}
	refused(t, "the number 3 of none", a, 0, 2, 3, api.ErrNone)
	g := toTheEnd(t, a, begun(t, a, h, 2, 3))
	refused(t, "one that was cut", a, g, 2, 3, api.ErrNone)
	tell(t, "the other one", begun(t, a, g, 2, math.MaxInt).Left(), 3)
}

// TestP1401NewFindsNoneInOddTables: tables that no Add makes: a number below 1 is none also where it is in the list, and there
// is no document that is longer than anybody has been given, however long the list says it is.
func TestP1401NewFindsNoneInOddTables(t *testing.T) {
	a := arena.New(2000)
	l := listsOf(2, api.Doc{Id: 1, Text: "ab"})
	l.table = []list.Item{{A: 0, B: 1}, {A: 5, B: math.MaxInt}, {A: 6, B: math.MaxInt / 2}, {A: 7, B: math.MaxInt/4 + 1}, {A: 8, B: 1 << 31}, {A: 9, B: math.MaxInt / 4}}
	h := built(t, a, l)
	for _, id := range []int{0, 5, 6, 7} {
		refused(t, fmt.Sprint("the number ", id), a, h, 2, id, api.ErrNone)
	}
	was := counts(a)
	long, longest := begun(t, a, h, 2, 8), begun(t, a, h, 2, 9)
	tell(t, "long ones", []int{long.Left(), longest.Left()}, []int{1<<32 + 3, math.MaxInt/4*2 + 3})
	long.Stop()
	longest.Stop()
	tell(t, "the counts", counts(a), was)
	refused(t, "a table of a vast list", a, node(t, a, api.Node{Tag: api.TagRoot, Kids: [4]int{0, 0, 0, vast(t, a).Table}}), 2, 1, api.ErrNone)
}

func TestP1401NewMakesNothing(t *testing.T) {
	for _, docs := range collections() {
		a := arena.New(4000)
		h := built(t, a, listsOf(2, docs...))
		room(t, a, 0)
		for _, d := range docs {
			for _, rate := range []int{1, 2, api.MaxRate} {
				was, made := counts(a), a.Made()
				c := begun(t, a, h, rate, d.Id)
				now := slices.Clone(was)
				now[h-1]++
				tell(t, "the counts", []any{slices.Equal(counts(a), now), a.Made() - made, a.Pending()}, []any{true, 0, 0})
				tell(t, "Left, Root, Held", []any{c.Left(), c.Root(), c.Held()}, []any{2*len(d.Text) + 3, 0, []int{h}})
				c.Stop()
				tell(t, "the counts again", counts(a), was)
			}
		}
	}
}

// TestP1401EachStep: what is found, what is there behind each Step, and that the rest is root's as it was.
func TestP1401EachStep(t *testing.T) {
	for _, docs := range collections() {
		for _, rate := range []int{1, 3, api.MaxRate} {
			a := arena.New(api.MaxNodes)
			h := built(t, a, listsOf(rate, docs...))
			v, was, all := partsOf(a, h), counts(a), sorted(docs...)
			for i, d := range docs {
				if i > 2 && i < len(docs)-1 {
					continue
				}
				c := begun(t, a, h, rate, d.Id)
				made := a.Made()
				for at := len(d.Text); at >= 0; at-- {
					goOn(t, c, 1)
					tell(t, fmt.Sprintf("the row of %d from %d on", d.Id, at), c.row, slices.IndexFunc(all, func(x suffix) bool { return x.doc == i && x.at == at }))
				}
				tell(t, "the rows", c.rows, rowsOf(i, docs...))
				tell(t, "the parts", []any{c.now, c.made, a.Made() - made}, []any{v, version.Parts{}, 0})
				for n := range len(d.Text) + 1 {
					tell(t, "Left, Root", []int{c.Left(), c.Root()}, []int{len(d.Text) + 2 - n, 0})
					goOn(t, c, 1)
					tell(t, fmt.Sprintf("%d, without %d", d.Id, n+1), found(a, c.now), halfway(rate, i, n+1, docs...))
				}
				tell(t, "Left, Root, the table", []int{c.Left(), c.Root(), c.now.Table}, []int{1, 0, v.Table})
				g := toTheEnd(t, a, c)
				tell(t, "the version", []any{version.Check(a, g, rate, without(docs, i)...), (g == 0) == (len(docs) == 1), g == 0 || a.Count(g) == 1}, []any{true, true, true})
				drop(a, g)
				tell(t, "the one ahead", []any{found(a, v), version.Check(a, h, rate, docs...), slices.Equal(counts(a), was)}, []any{listsOf(rate, docs...), true, true})
			}
		}
	}
}

// TestP1401ItMakesWhatTheyMake: beside it, the same is made by the calls of the layers below, at places that are found by
// sorting; each makes and uses as much as the other.
func TestP1401ItMakesWhatTheyMake(t *testing.T) {
	for _, docs := range collections() {
		for _, rate := range []int{1, 3} {
			i := len(docs) / 2
			a, b := arena.New(api.MaxNodes), arena.New(api.MaxNodes)
			h, g := built(t, a, listsOf(rate, docs...)), built(t, b, listsOf(rate, docs...))
			c := begun(t, a, h, rate, docs[i].Id)
			v := partsOf(b, g)
			for _, part := range []int{v.Wave, v.Marks, v.Spots, v.Table} {
				b.Keep(part)
			}
			alike := func(what string) {
				t.Helper()
				a.Work(api.MaxNodes)
				b.Work(api.MaxNodes)
				tell(t, what+": Made, Used", []int{a.Made(), a.Used()}, []int{b.Made(), b.Used()})
			}
			turn := func(part *int, h int, e api.Errno) {
				t.Helper()
				tell(t, "another one", e, api.OK)
				b.Drop(*part)
				*part = h
			}
			goOn(t, c, len(docs[i].Text)+1)
			alike("the rows")
			all := sorted(docs...)
			for n, row := range slices.Backward(rowsOf(i, docs...)) {
				goOn(t, c, 1)
				f, e := wave.Delete(b, v.Wave, row)
				turn(&v.Wave, f, e)
				f, e = bits.Delete(b, v.Marks, row)
				turn(&v.Marks, f, e)
				if at := all[row].at; at%rate == 0 {
					f, e = list.Delete(b, v.Spots, slices.Index(list.All(b, v.Spots), list.Item{A: docs[i].Id, B: at}))
					turn(&v.Spots, f, e)
				}
				alike(fmt.Sprintf("the row %d", n))
			}
			f, e := table.Cut(b, v.Table, docs[i].Id)
			turn(&v.Table, f, e)
			f, e = version.Make(b, v)
			drop(b, v.Wave, v.Marks, v.Spots, v.Table)
			tell(t, "Make", e, api.OK)
			h = toTheEnd(t, a, c)
			alike("the version")
			tell(t, "both", found(a, partsOf(a, h)), found(b, partsOf(b, f)))
		}
	}
}

// TestP1401AllSmallOnes: all lists of three short texts of two bytes, each of them cut, and then the others.
func TestP1401AllSmallOnes(t *testing.T) {
	texts := []string{"", "a", "b", "aa", "ab", "ba", "bb"}
	for n := range len(texts) * len(texts) * len(texts) {
		a := arena.New(1000)
		rate := 1 + n%3
		docs := []api.Doc{{Id: 9, Text: texts[n%7]}, {Id: 4, Text: texts[n/7%7]}, {Id: 7, Text: texts[n/49]}}
		root := built(t, a, listsOf(rate, docs...))
		for i := range docs {
			h, now := root, docs
			a.Keep(root)
			for k := i; len(now) > 0; k++ {
				at := k % len(now)
				g := toTheEnd(t, a, begun(t, a, h, rate, now[at].Id))
				now = without(now, at)
				drop(a, h)
				h = g
				if !version.Check(a, h, rate, now...) || !counted(a, root, h) {
					t.Fatalf("%v by %d, of %v", now, rate, docs)
				}
			}
			tell(t, "the root", []any{h, a.Used()}, []any{0, len(a.Reach(root))})
		}
	}
}

// TestP1401DrawnOnes: documents come and go; what is left is a version of just those that are there.
func TestP1401DrawnOnes(t *testing.T) {
	r := rand.New(rand.NewSource(1401))
	for range 12 {
		a, h, rate := arena.New(api.MaxNodes), 0, 1+r.Intn(api.MaxRate)
		alphabet := [][]byte{{'a', 'b'}, {0, 1, 254, 255}, {'a'}, {0, 255}}[r.Intn(4)]
		var docs []api.Doc
		for id := 1; id < 30 || len(docs) > 0; id++ {
			g := 0
			if id < 30 && (len(docs) == 0 || len(docs) < api.MaxDocs && r.Intn(3) > 0) {
				b := make([]byte, r.Intn(api.MaxText+1))
				for i := range b {
					b[i] = alphabet[r.Intn(len(alphabet))]
				}
				d := api.Doc{Id: id, Text: string(b)}
				g = putIn(t, a, h, rate, d)
				docs = append(docs, d)
			} else {
				i := r.Intn(len(docs))
				g = toTheEnd(t, a, begun(t, a, h, rate, docs[i].Id))
				docs = without(docs, i)
			}
			drop(a, h)
			h = g
			if !version.Check(a, h, rate, docs...) || a.Used() != len(a.Reach(h)) {
				t.Fatalf("%v by %d", docs, rate)
			}
		}
		tell(t, "nothing", []int{h, a.Used()}, []int{0, 0})
	}
}

// putIn is the version of one document more.
func putIn(t *testing.T, a *arena.Arena, root, rate int, d api.Doc) int {
	t.Helper()
	p, e := put.New(a, root, rate, d.Id, d.Text)
	for is := e != api.OK; !is; a.Work(api.MaxNodes) {
		is, e = p.Step()
	}
	tell(t, "put", e, api.OK)
	return p.Root()
}

// TestP1401TheMarksThatAreThere: it takes out what is marked, at whatever rate that was, also where it is told another one.
func TestP1401TheMarksThatAreThere(t *testing.T) {
	for is := 1; is <= api.MaxRate; is++ {
		for _, told := range []int{1, 2, 5, api.MaxRate} {
			for i, docs := 0, collections()[3]; i < len(docs); i++ {
				a := arena.New(1000)
				h := built(t, a, listsOf(is, docs...))
				g := toTheEnd(t, a, begun(t, a, h, told, docs[i].Id))
				if !version.Check(a, g, is, without(docs, i)...) {
					t.Errorf("%d: %d is marked, %d is told", i, is, told)
				}
			}
		}
	}
}

// TestP1401SideBySide: some of one root, whose Steps come in turn, and whose owner has given it up.
func TestP1401SideBySide(t *testing.T) {
	docs := collections()[7]
	a := arena.New(api.MaxNodes)
	h := built(t, a, listsOf(2, docs...))
	var all []*Cut
	for _, d := range append(docs, docs[:2]...) {
		all = append(all, begun(t, a, h, 2, d.Id))
	}
	tell(t, "the count of the root", a.Count(h), 1+len(all))
	drop(a, h)
	for range 2*api.MaxText + 3 {
		var held []int
		for _, c := range all {
			if is, e := c.Step(); e != api.OK && (e != api.ErrIdle || !is) {
				t.Fatalf("Step: %v %d", is, e)
			}
			held = append(held, c.Held()...)
			if c.Root() != 0 {
				held = append(held, c.Root())
			}
		}
		if a.Work(3); !counted(a, held...) {
			t.Fatalf("not counted: %v", held)
		}
	}
	a.Work(api.MaxNodes)
	tell(t, "the root", a.Count(h), 0)
	for i, c := range all {
		tell(t, fmt.Sprint("without ", i), version.Check(a, c.Root(), 2, without(docs, i%len(docs))...), true)
		drop(a, c.Root())
	}
	tell(t, "with nothing left", a.Used(), 0)
}

// need tells how many nodes there are ahead of each Step, and how many each Step makes, if Work frees what waits in between.
func need(t *testing.T, docs []api.Doc, rate, id int) (used, made []int) {
	t.Helper()
	a := arena.New(api.MaxNodes)
	c := begun(t, a, built(t, a, listsOf(rate, docs...)), rate, id)
	for c.Left() > 0 {
		used = append(used, a.Used())
		was := a.Made()
		c.Step()
		made = append(made, a.Made()-was)
		a.Work(api.MaxNodes)
	}
	return used, made
}

// TestP1401Full: each room there may be, with Work between the Steps, and without: the first Step that has no room for all it
// makes tells so, and nothing is left of any.
func TestP1401Full(t *testing.T) {
	for _, x := range []struct {
		docs     []api.Doc
		rate, at int
	}{
		{collections()[0], 1, 0}, {collections()[2], 2, 0}, {collections()[3], 1, 0}, {collections()[3], 4, 1}, {collections()[6], 2, 1},
	} {
		id := x.docs[x.at].Id
		used, made := need(t, x.docs, x.rate, id)
		for _, works := range []int{0, api.MaxNodes} {
			ends := 0
			for n := 0; ends < 3; n++ {
				a := arena.New(1500)
				h := built(t, a, listsOf(x.rate, x.docs...))
				room(t, a, n)
				was := counts(a)
				c := begun(t, a, h, x.rate, id)
				e := api.OK
				for k := range made {
					have := a.Used()
					if works > 0 {
						have = a.Size() - n + used[k] - used[0]
					}
					tell(t, "used", a.Used(), have)
					fits := have+made[k] <= a.Size()
					var is bool
					is, e = c.Step()
					want := []any{k == len(made)-1, api.OK}
					if !fits {
						want = []any{true, api.ErrFull}
					}
					tell(t, fmt.Sprintf("Step %d of %d, with room for %d", k, id, n), []any{is, e}, want)
					if is {
						break
					}
					a.Work(works)
				}
				g := c.Root()
				over(t, "the end", c, g)
				if e == api.OK {
					ends++
					tell(t, "the version", version.Check(a, g, x.rate, without(x.docs, x.at)...), true)
				} else {
					tell(t, "none", g, 0)
				}
				drop(a, g)
				tell(t, "the counts", []any{counts(a), version.Check(a, h, x.rate, x.docs...)}, []any{was, true})
			}
		}
	}
}

// TestP1401FullAgain: what has had no room has it later, once it is begun anew.
func TestP1401FullAgain(t *testing.T) {
	a := arena.New(400)
	docs := collections()[3]
	h := built(t, a, listsOf(2, docs...))
	var fill []int
	for a.Used() < a.Size()-30 {
		fill = append(fill, node(t, a, api.Node{Tag: api.TagLeaf, A: 1, B: 1}))
	}
	c := begun(t, a, h, 2, 5)
	e := api.OK
	for c.Left() > 0 {
		_, e = c.Step()
		a.Work(api.MaxNodes)
	}
	tell(t, "full", e, api.ErrFull)
	over(t, "full", c, 0)
	drop(a, fill...)
	g := toTheEnd(t, a, begun(t, a, h, 2, 5))
	tell(t, "again", version.Check(a, g, 2, docs[1:]...), true)
}

// TestP1401OfNoDocuments: the last one that goes leaves 0, whatever room there is; also of a root that somebody put together
// of more rows than the table has.
func TestP1401OfNoDocuments(t *testing.T) {
	for _, docs := range [][]api.Doc{collections()[0], collections()[1]} {
		a := arena.New(200)
		h := built(t, a, listsOf(1, docs...))
		c := begun(t, a, h, 1, docs[0].Id)
		goOn(t, c, 2*len(docs[0].Text)+2)
		tell(t, "what is left", []any{c.now, c.Held()}, []any{version.Parts{Table: partsOf(a, h).Table}, []int{h}})
		room(t, a, 0)
		is, e := c.Step()
		tell(t, "the last Step", []any{is, e}, []any{true, api.OK})
		over(t, "behind it", c, 0)
		tell(t, "the root", a.Count(h), 1)
	}
	a := arena.New(1000)
	l := listsOf(1, collections()[3]...)
	l.table = l.table[:1]
	h := built(t, a, l)
	was := counts(a)
	c := begun(t, a, h, 1, 5)
	tell(t, "of more rows", toTheEnd(t, a, c), 0)
	tell(t, "of more rows: the counts", counts(a), was)
}

// TestP1401OddRoots: roots that somebody put together of what does not fit: each ends, with what the calls tell, and nothing
// is left of it.
func TestP1401OddRoots(t *testing.T) {
	a := arena.New(api.MaxNodes)
	docs := collections()[3]
	v := partsOf(a, built(t, a, listsOf(2, docs...)))
	small := partsOf(a, built(t, a, listsOf(2, docs[:1]...)))
	many := vast(t, a)
	choices := []int{0, v.Wave, v.Marks, v.Spots, v.Table, small.Wave, small.Marks, small.Spots, small.Table, many.Wave, many.Marks, many.Spots}
	ends := map[api.Errno]int{}
	for n := range 12 * 12 * 12 * 12 {
		if n%7 > 0 {
			continue
		}
		h, _ := version.Make(a, version.Parts{Wave: choices[n%12], Marks: choices[n/12%12], Spots: choices[n/144%12], Table: choices[n/1728]})
		was := counts(a)
		c, e := New(a, h, 2, 5)
		if e != api.OK {
			ends[e]++
			_, there := table.Place(a, choices[n/1728], 5)
			tell(t, "New", []any{c == nil, e, there}, []any{true, api.ErrNone, false})
			drop(a, h)
			continue
		}
		for left := c.Left(); c.Left() > 0; left-- {
			var is bool
			if is, e = c.Step(); left == 0 || is != (c.Left() == 0) || e != api.OK && !is {
				t.Fatalf("%d: %v %d", n, is, e)
			}
		}
		ends[e]++
		if c.Root() != 0 && e != api.OK {
			t.Fatalf("%d: the version is %d, %d", n, c.Root(), e)
		}
		drop(a, c.Root())
		if !slices.Equal(counts(a), was) {
			t.Fatalf("%d: something is left, %d", n, e)
		}
		drop(a, h)
	}
	if ends[api.OK] == 0 || ends[api.ErrRange] == 0 || ends[api.ErrNone] == 0 || len(ends) != 3 {
		t.Errorf("the ends: %v", ends)
	}
}

// vast are parts that are below themselves again and again: more rows than anybody can look at.
func vast(t *testing.T, a *arena.Arena) version.Parts {
	t.Helper()
	row := node(t, a, api.Node{Tag: api.TagLeaf, A: 0, B: 1})
	items := node(t, a, api.Node{Tag: api.TagItem, A: 1, B: 1})
	n := uint64(1)
	for range 40 {
		n *= 2
		row = node(t, a, api.Node{Tag: api.TagFork, Kids: [4]int{row, row}, A: n})
		items = node(t, a, api.Node{Tag: api.TagJoin, Kids: [4]int{items, items}, A: n})
	}
	symbols := 0
	for range api.Levels {
		symbols = node(t, a, api.Node{Tag: api.TagWave, Kids: [4]int{row, symbols}})
	}
	return version.Parts{Wave: symbols, Marks: row, Spots: items, Table: items}
}

// TestP1401TheErrorsOfTheCalls: where one part is shorter than the others, the Step that comes upon it tells ErrRange; and so
// does the one that is to find a row where there is none.
func TestP1401TheErrorsOfTheCalls(t *testing.T) {
	for _, x := range []struct {
		turn func(*plain)
		left int
	}{
		{func(l *plain) { l.symbols[0] = 0 }, 6},                 // no byte is ahead of the terminator
		{func(l *plain) { l.table[0].B = 3 }, 6},                 // one byte more than there are
		{func(l *plain) { l.symbols = nil }, 6},                  // no row at all
		{func(l *plain) { l.table[0].B, l.symbols = 0, nil }, 2}, // no row at all, of a document that has but one
		{func(l *plain) { l.marks = l.marks[:2] }, 4},
		{func(l *plain) { l.spots = l.spots[:2] }, 4},
		{func(l *plain) { l.spots = nil }, 4},
	} {
		a := arena.New(1000)
		l := listsOf(1, api.Doc{Id: 3, Text: "ab"})
		x.turn(&l)
		h := built(t, a, l)
		was := counts(a)
		c := begun(t, a, h, 1, 3)
		goOn(t, c, c.Left()-x.left)
		is, e := c.Step()
		tell(t, fmt.Sprint("the Step with ", x.left, " left"), []any{is, e}, []any{true, api.ErrRange})
		over(t, "behind it", c, 0)
		a.Work(api.MaxNodes)
		tell(t, "the counts", counts(a), was)
	}
}

func TestP1401HeldAndCounted(t *testing.T) {
	for _, docs := range collections() {
		for i, d := range docs {
			if i > 3 {
				break
			}
			a := arena.New(api.MaxNodes)
			h := built(t, a, listsOf(3, docs...))
			c := begun(t, a, h, 3, d.Id)
			for c.Left() > 0 {
				held := c.Held()
				want := slices.DeleteFunc([]int{h, c.made.Wave, c.made.Marks, c.made.Spots}, func(h int) bool { return h == 0 })
				slices.Sort(want)
				tell(t, "Held", held, want)
				if !counted(a, append(held, h)...) {
					t.Fatalf("%q, %d left: not counted", d.Text, c.Left())
				}
				a.Work(api.MaxNodes)
				tell(t, "no more than it needs", a.Used(), len(a.Reach(append(held, h)...)))
				c.Step()
			}
			tell(t, "Held, at the end", c.Held(), []int{})
			drop(a, h)
			if g := c.Root(); !counted(a, g) && g != 0 {
				t.Fatalf("%q: not counted at the end", d.Text)
			}
			tell(t, "the version's alone", a.Used(), len(a.Reach(c.Root())))
		}
	}
}

// TestP1401WhatIsHeld: just what is made, and no part that is root's.
func TestP1401WhatIsHeld(t *testing.T) {
	a := arena.New(1000)
	h := built(t, a, listsOf(4, collections()[3]...))
	c := begun(t, a, h, 4, 5)
	var l []int
	for range 15 {
		l = append(l, len(c.Held()))
		c.Step()
	}
	// From the greatest: nana, na, banana, anana, ana, a, the end; of these 4 and 0 are marked.
	tell(t, "how many", l, []int{1, 1, 1, 1, 1, 1, 1, 1, 3, 4, 4, 4, 4, 4, 4})
}

func TestP1401StopAtEachStep(t *testing.T) {
	for _, docs := range collections() {
		a := arena.New(api.MaxNodes)
		h := built(t, a, listsOf(2, docs...))
		was := counts(a)
		for i, d := range docs {
			if i > 2 {
				break
			}
			for n := range 2*len(d.Text) + 3 {
				c := begun(t, a, h, 2, d.Id)
				goOn(t, c, n)
				c.Stop()
				over(t, "Stop", c, 0)
				a.Work(api.MaxNodes)
				if !slices.Equal(counts(a), was) {
					t.Fatalf("%q: something is left behind %d Steps", d.Text, n)
				}
			}
		}
		tell(t, "the root", version.Check(a, h, 2, docs...), true)
	}
}

func TestP1401RootStaysWhoseItIs(t *testing.T) {
	a := arena.New(1000)
	h := built(t, a, listsOf(2, collections()[3]...))
	c := begun(t, a, h, 2, 9)
	tell(t, "with it", a.Count(h), 2)
	g := toTheEnd(t, a, c)
	for range 3 {
		tell(t, "Root", []int{c.Root(), a.Count(g), a.Count(h)}, []int{g, 1, 1})
		c.Stop()
		c.Step()
	}
	drop(a, h)
	tell(t, "the version alone", []any{a.Used(), counted(a, g)}, []any{len(a.Reach(g)), true})
	drop(a, g)
	tell(t, "nothing", a.Used(), 0)
	over(t, "also then", c, g)
}

func TestP1401HeldIsNewEachTime(t *testing.T) {
	a := arena.New(1000)
	c := begun(t, a, built(t, a, listsOf(2, collections()[3]...)), 2, 5)
	goOn(t, c, 9)
	held := c.Held()
	want := fmt.Sprint(held)
	for i := range held {
		held[i] = -1
	}
	tell(t, "Held", c.Held(), want)
	c.Stop()
	tell(t, "Held, at the end", c.Held(), []int{})
}

func TestP1401NilAndZero(t *testing.T) {
	over(t, "nil", nil, 0)
	over(t, "zero", new(Cut), 0)
}

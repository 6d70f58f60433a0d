package put

import (
	"fmt"
	"math"
	"math/rand"
	"slices"
	"strings"
	"testing"

	"scrinium/api"
	"scrinium/arena"
	"scrinium/bits"
	"scrinium/list"
	"scrinium/table"
	"scrinium/version"
	"scrinium/wave"
)

// plain is a version, or what is half made of one, as lists: what its wave, its marks, its spots and its table have.
type plain struct {
	symbols []int
	marks   []bool
	spots   []list.Item
	table   []list.Item
}

// far are numbers that are no handle, up to the ends of int.
func far() []int {
	return []int{-1, -2, -64, api.MaxNodes + 1, 1 << 20, math.MaxInt32, math.MinInt32, math.MaxInt - 1, math.MaxInt, math.MinInt, math.MinInt + 1}
}

func tell(t *testing.T, what string, got, want any) {
	t.Helper()
	if g, w := fmt.Sprint(got), fmt.Sprint(want); g != w {
		t.Errorf("%s: %s, not %s", what, g, w)
	}
}

// collections are documents of every kind: none, empty ones, alike ones, such with all bytes' ends, as many and as long ones
// as may be, less one.
func collections() [][]api.Doc {
	many := make([]api.Doc, api.MaxDocs-1)
	for i := range many {
		many[i] = api.Doc{Id: 2*i + 1, Text: strings.Repeat("ab"[i%2:i%2+1]+"na", 14)[:api.MaxText-i%3]}
	}
	return [][]api.Doc{
		nil,
		{{Id: 1, Text: ""}},
		{{Id: 7, Text: "a"}},
		{{Id: 5, Text: "banana"}, {Id: 2, Text: ""}, {Id: 9, Text: "nan"}},
		{{Id: 2, Text: "x"}, {Id: 1, Text: "x"}, {Id: 3, Text: "x"}},
		{{Id: math.MaxInt, Text: "\x00\xff\x00"}, {Id: 1, Text: "\xff\xfe\x01\x00"}},
		{{Id: 8, Text: "mississippi misses missus"}, {Id: 6, Text: strings.Repeat("a", api.MaxText)}},
		many,
	}
}

// incoming are texts of every kind.
func incoming() []string {
	return []string{"", "a", "x", "banana", "nan", "\x00", "\xff", "\x00\xff\x00", "\xff\xff\x00\x01", "sims\x00 imp", strings.Repeat("a", api.MaxText), strings.Repeat("bna", 14)[:api.MaxText]}
}

// halfway tells the lists of documents, where of the last one only the rows from a byte on are there: which is where by
// sorting keys of whole numbers; and the place of the row from that byte on.
func halfway(rate, from int, docs ...api.Doc) (plain, int) {
	type suffix struct {
		key     []int
		doc, at int
	}
	var all []suffix
	for doc, d := range docs {
		first := 0
		if doc == len(docs)-1 {
			first = from
		}
		for at := first; at <= len(d.Text); at++ {
			var key []int
			for _, b := range []byte(d.Text[at:]) {
				key = append(key, 1000+int(b))
			}
			all = append(all, suffix{append(key, doc), doc, at})
		}
	}
	slices.SortFunc(all, func(x, y suffix) int { return slices.Compare(x.key, y.key) })
	var l plain
	for _, x := range all {
		d, s := docs[x.doc], 0
		if x.at > 0 {
			s = int(d.Text[x.at-1]) + 1
		}
		l.symbols = append(l.symbols, s)
		l.marks = append(l.marks, x.at%rate == 0)
		if x.at%rate == 0 {
			l.spots = append(l.spots, list.Item{A: d.Id, B: x.at})
		}
	}
	for _, d := range docs {
		l.table = append(l.table, list.Item{A: d.Id, B: len(d.Text)})
	}
	return l, slices.IndexFunc(all, func(x suffix) bool { return x.doc == len(docs)-1 && x.at == from })
}

func listsOf(rate int, docs ...api.Doc) plain {
	l, _ := halfway(rate, 0, docs...)
	return l
}

// found tells the lists that parts have.
func found(a *arena.Arena, p version.Parts) plain {
	return plain{wave.All(a, p.Wave), bits.All(a, p.Marks), list.All(a, p.Spots), list.All(a, p.Table)}
}

// built makes a version of lists, which has one count, for who asked, and its parts none but its own.
func built(t *testing.T, a *arena.Arena, l plain) int {
	t.Helper()
	p := version.Parts{
		Wave:  grown(t, a, l.symbols, wave.Insert),
		Marks: grown(t, a, l.marks, bits.Insert),
		Spots: grown(t, a, l.spots, list.Insert),
		Table: grown(t, a, l.table, list.Insert),
	}
	h, e := version.Make(a, p)
	if e != api.OK {
		t.Fatalf("Make(%v): %d", p, e)
	}
	drop(a, p.Wave, p.Marks, p.Spots, p.Table)
	return h
}

func grown[T any](t *testing.T, a *arena.Arena, l []T, insert func(*arena.Arena, int, int, T) (int, api.Errno)) int {
	t.Helper()
	h := 0
	for i, x := range l {
		g, e := insert(a, h, i, x)
		if e != api.OK {
			t.Fatalf("insert at %d: %d", i, e)
		}
		drop(a, h)
		h = g
	}
	return h
}

func drop(a *arena.Arena, l ...int) {
	for _, h := range l {
		a.Drop(h)
	}
	a.Work(api.MaxNodes)
}

func node(t *testing.T, a *arena.Arena, n api.Node) int {
	t.Helper()
	h, e := a.Make(n)
	if e != api.OK {
		t.Fatalf("Make(%v): %d", n, e)
	}
	return h
}

// room leaves just so many that are free.
func room(t *testing.T, a *arena.Arena, n int) {
	t.Helper()
	for a.Size()-a.Used() > n {
		node(t, a, api.Node{Tag: api.TagLeaf, A: 1, B: 1})
	}
}

func counts(a *arena.Arena) []int {
	var l []int
	for h := 1; h <= a.Size(); h++ {
		l = append(l, a.Count(h))
	}
	return l
}

// begun is New, where nothing is wrong.
func begun(t *testing.T, a *arena.Arena, root, rate int, d api.Doc) *Put {
	t.Helper()
	p, e := New(a, root, rate, d.Id, d.Text)
	if p == nil || e != api.OK {
		t.Fatalf("New(%d, %d, %v): %d", root, rate, d, e)
	}
	return p
}

// goOn does so many Steps, none of which is the last.
func goOn(t *testing.T, p *Put, n int) {
	t.Helper()
	for range n {
		if over, e := p.Step(); over || e != api.OK {
			t.Fatalf("Step: %v %d", over, e)
		}
	}
}

// toTheEnd does all Steps: the version.
func toTheEnd(t *testing.T, a *arena.Arena, p *Put) int {
	t.Helper()
	for p.Left() > 1 {
		goOn(t, p, 1)
		a.Work(api.MaxNodes)
	}
	over, e := p.Step()
	if !over || e != api.OK {
		t.Fatalf("the last Step: %v %d", over, e)
	}
	a.Work(api.MaxNodes)
	return p.Root()
}

// over holds what a Put tells that is over.
func over(t *testing.T, what string, p *Put, root int) {
	t.Helper()
	for range 2 {
		is, e := p.Step()
		tell(t, what+": Step, Root, Left, Held", []any{is, e, p.Root(), p.Left(), p.Held()}, []any{true, api.ErrIdle, root, 0, []int{}})
		p.Stop()
	}
}

// counted tells whether each live node's count is how often it is below another one, and how often somebody has it.
func counted(a *arena.Arena, held ...int) bool {
	want := make([]int, a.Size()+1)
	for h := range want {
		n, _ := a.Get(h)
		for _, kid := range n.Kids {
			want[kid]++
		}
	}
	for _, h := range held {
		want[h]++
	}
	return slices.Equal(counts(a), want[1:])
}

func refused(t *testing.T, what string, a *arena.Arena, root, rate, id int, text string, want api.Errno) {
	t.Helper()
	was := counts(a)
	p, e := New(a, root, rate, id, text)
	tell(t, what, []any{p == nil, e}, []any{true, want})
	tell(t, what+": the counts", counts(a), was)
}

func TestP1301TheExample(t *testing.T) {
	tell(t, "Left", begun(t, arena.New(100), 0, 1, api.Doc{Id: 1, Text: "a"}).Left(), 4)
}

func TestP1301NewRefuses(t *testing.T) {
	a := arena.New(2000)
	docs := []api.Doc{{Id: 3, Text: "ab"}, {Id: math.MaxInt, Text: ""}}
	h := built(t, a, listsOf(2, docs...))
	for what, none := range map[string]*arena.Arena{"nil": nil, "zero": {}} {
		for _, root := range append(far(), 0, 1) {
			refused(t, what+" arena", none, root, 2, 1, "a", api.ErrArg)
		}
	}
	v, _ := version.Of(a, h)
	waits, gone := built(t, a, listsOf(2, docs...)), built(t, a, listsOf(2, docs...))
	drop(a, gone)
	a.Drop(waits)
	for _, root := range append(far(), v.Wave, v.Marks, v.Spots, v.Table, waits, gone, a.Size(), a.Size()+1) {
		refused(t, fmt.Sprint("the root ", root), a, root, 2, 1, "a", api.ErrArg)
	}
	for _, rate := range append(far(), 0, api.MaxRate+1) {
		refused(t, fmt.Sprint("the rate ", rate), a, h, rate, 1, "a", api.ErrArg)
		refused(t, fmt.Sprint("the rate ", rate, " of none"), a, 0, rate, 1, "a", api.ErrArg)
	}
	for _, id := range []int{0, -1, -3, math.MinInt, 3, math.MaxInt} {
		refused(t, fmt.Sprint("the number ", id), a, h, 2, id, "a", api.ErrArg)
	}
	for _, n := range []int{api.MaxText + 1, api.MaxText + 2, 1000} {
		refused(t, fmt.Sprint("a text of ", n), a, h, 2, 1, strings.Repeat("x", n), api.ErrArg)
	}
}

func TestP1301NewRefusesTooMany(t *testing.T) {
	a := arena.New(3000)
	docs := make([]api.Doc, api.MaxDocs)
	for i := range docs {
		docs[i] = api.Doc{Id: i + 1, Text: "x"}
	}
	most, less := built(t, a, listsOf(2, docs...)), built(t, a, listsOf(2, docs[1:]...))
	refused(t, "one more", a, most, 2, 11, "a", api.ErrMany)
	refused(t, "one more, of nothing", a, most, 16, math.MaxInt, "", api.ErrMany)
	refused(t, "a number that is there, ahead of too many", a, most, 2, 10, "a", api.ErrArg)
	refused(t, "a number that is none, ahead of too many", a, most, 2, 0, "a", api.ErrArg)
	refused(t, "a rate that is none, ahead of too many", a, most, 17, 11, "a", api.ErrArg)
	refused(t, "a long text, ahead of too many", a, most, 2, 11, strings.Repeat("x", 41), api.ErrArg)
	h := toTheEnd(t, a, begun(t, a, less, 2, docs[0]))
	tell(t, "the last that may be", version.Check(a, h, 2, append(docs[1:len(docs):len(docs)], docs[0])...), true)
	refused(t, "one more than those", a, h, 2, 11, "a", api.ErrMany)
}

func TestP1301NewMakesNothing(t *testing.T) {
	for _, docs := range collections() {
		a := arena.New(3000)
		h := built(t, a, listsOf(2, docs...))
		room(t, a, 0)
		for _, text := range incoming() {
			for _, rate := range []int{1, 2, api.MaxRate} {
				for _, id := range []int{100, math.MaxInt - 1} {
					was, made := counts(a), a.Made()
					p := begun(t, a, h, rate, api.Doc{Id: id, Text: text})
					if h != 0 {
						was[h-1]++
					}
					tell(t, "the counts", []any{slices.Equal(counts(a), was), a.Made() - made, a.Pending()}, []any{true, 0, 0})
					tell(t, "Left, Root", []int{p.Left(), p.Root()}, []int{len(text) + 3, 0})
					p.Stop()
				}
			}
		}
	}
}

// TestP1301EachStep: what is there behind each Step, and that the rest is root's as it was.
func TestP1301EachStep(t *testing.T) {
	for _, docs := range collections() {
		for _, rate := range []int{1, 2, 3, api.MaxRate} {
			a := arena.New(api.MaxNodes)
			h := built(t, a, listsOf(rate, docs...))
			v, was := partsOf(a, h), counts(a)
			for _, text := range incoming() {
				d := api.Doc{Id: 100, Text: text}
				all := append(docs[:len(docs):len(docs)], d)
				p := begun(t, a, h, rate, d)
				want := listsOf(rate, docs...)
				want.table = listsOf(rate, all...).table
				goOn(t, p, 1)
				tell(t, "the document", found(a, p.parts()), want)
				tell(t, "the rest", p.made, version.Parts{Table: p.made.Table})
				for at := len(text); at >= 0; at-- {
					goOn(t, p, 1)
					want, _ = halfway(rate, at, all...)
					tell(t, fmt.Sprintf("%q from %d on", text, at), found(a, p.parts()), want)
				}
				tell(t, "Left, Root", []int{p.Left(), p.Root()}, []int{1, 0})
				last := p.parts()
				g := toTheEnd(t, a, p)
				tell(t, "the version", []any{partsOf(a, g), version.Check(a, g, rate, all...), a.Count(g)}, []any{last, true, 1})
				drop(a, g)
				tell(t, "the one ahead", []any{found(a, v), version.Check(a, h, rate, docs...), slices.Equal(counts(a), was)}, []any{listsOf(rate, docs...), true, true})
			}
		}
	}
}

// TestP1301ItMakesWhatTheyMake: beside it, the same is made by the calls of the layers below, at places that are found by
// sorting; each makes and uses as much as the other.
func TestP1301ItMakesWhatTheyMake(t *testing.T) {
	for _, docs := range collections() {
		for _, rate := range []int{1, 3} {
			for _, text := range incoming() {
				a, b := arena.New(api.MaxNodes), arena.New(api.MaxNodes)
				h, g := built(t, a, listsOf(rate, docs...)), built(t, b, listsOf(rate, docs...))
				d := api.Doc{Id: 100, Text: text}
				all := append(docs[:len(docs):len(docs)], d)
				p := begun(t, a, h, rate, d)
				v := partsOf(b, g)
				b.Keep(v.Wave)
				b.Keep(v.Marks)
				b.Keep(v.Spots)
				b.Keep(v.Table)
				alike := func(what string) {
					t.Helper()
					a.Work(api.MaxNodes)
					b.Work(api.MaxNodes)
					tell(t, what+": Made, Used", []int{a.Made(), a.Used()}, []int{b.Made(), b.Used()})
				}
				turn := func(part *int, h int, e api.Errno) {
					t.Helper()
					tell(t, "another one", e, api.OK)
					b.Drop(*part)
					*part = h
				}
				goOn(t, p, 1)
				f, e := table.Add(b, v.Table, d.Id, len(text))
				turn(&v.Table, f, e)
				alike("the document")
				for at := len(text); at >= 0; at-- {
					goOn(t, p, 1)
					want, i := halfway(rate, at, all...)
					f, e = wave.Insert(b, v.Wave, i, want.symbols[i])
					turn(&v.Wave, f, e)
					f, e = bits.Insert(b, v.Marks, i, at%rate == 0)
					turn(&v.Marks, f, e)
					if at%rate == 0 {
						f, e = list.Insert(b, v.Spots, slices.Index(want.spots, list.Item{A: 100, B: at}), list.Item{A: 100, B: at})
						turn(&v.Spots, f, e)
					}
					alike(fmt.Sprintf("%q from %d on", text, at))
				}
				f, e = version.Make(b, v)
				drop(b, v.Wave, v.Marks, v.Spots, v.Table)
				tell(t, "Make", e, api.OK)
				h = toTheEnd(t, a, p)
				alike("the version")
				tell(t, "both", found(a, partsOf(a, h)), found(b, partsOf(b, f)))
			}
		}
	}
}

func partsOf(a *arena.Arena, h int) version.Parts {
	v, _ := version.Of(a, h)
	return v
}

// TestP1301AllSmallOnes: all lists of up to three short texts of two bytes, one put behind the other.
func TestP1301AllSmallOnes(t *testing.T) {
	texts := []string{"", "a", "b", "aa", "ab", "ba", "bb"}
	for n := range len(texts) * len(texts) * len(texts) {
		a, h := arena.New(1000), 0
		rate := 1 + n%3
		var docs []api.Doc
		for _, i := range []int{n % 7, n / 7 % 7, n / 49} {
			d := api.Doc{Id: 9 - len(docs), Text: texts[i]}
			g := toTheEnd(t, a, begun(t, a, h, rate, d))
			tell(t, "the one ahead", version.Check(a, h, rate, docs...), true)
			docs = append(docs, d)
			drop(a, h)
			h = g
			if !version.Check(a, h, rate, docs...) || a.Used() != len(a.Reach(h)) || !counted(a, h) {
				t.Fatalf("%v by %d", docs, rate)
			}
		}
		drop(a, h)
		tell(t, "with nothing left", a.Used(), 0)
	}
}

func TestP1301DrawnOnes(t *testing.T) {
	r := rand.New(rand.NewSource(1301))
	for range 20 {
		a, h, rate := arena.New(api.MaxNodes), 0, 1+r.Intn(api.MaxRate)
		alphabet := [][]byte{{'a', 'b'}, {0, 1, 254, 255}, {'a'}, {0, 255}}[r.Intn(4)]
		var docs []api.Doc
		for _, id := range r.Perm(api.MaxDocs) {
			b := make([]byte, r.Intn(api.MaxText+1))
			for i := range b {
				b[i] = alphabet[r.Intn(len(alphabet))]
			}
			d := api.Doc{Id: id + 1, Text: string(b)}
			g := toTheEnd(t, a, begun(t, a, h, rate, d))
			drop(a, h)
			docs, h = append(docs, d), g
			if !version.Check(a, h, rate, docs...) || a.Used() != len(a.Reach(h)) {
				t.Fatalf("%v by %d", docs, rate)
			}
		}
		refused(t, "one more", a, h, rate, 99, "", api.ErrMany)
	}
}

// TestP1301SideBySide: some of one root, whose Steps come in turn, and whose owner has given it up.
func TestP1301SideBySide(t *testing.T) {
	docs := collections()[3]
	a := arena.New(api.MaxNodes)
	h := built(t, a, listsOf(2, docs...))
	var all []*Put
	for i, text := range incoming() {
		all = append(all, begun(t, a, h, 2, api.Doc{Id: 100 + i, Text: text}))
	}
	tell(t, "the count of the root", a.Count(h), 1+len(all))
	drop(a, h)
	for range api.MaxText + 3 {
		var held []int
		for _, p := range all {
			if over, e := p.Step(); e != api.OK && (e != api.ErrIdle || !over) {
				t.Fatalf("Step: %v %d", over, e)
			}
			held = append(held, p.Held()...)
			if p.Root() != 0 {
				held = append(held, p.Root())
			}
		}
		if a.Work(3); !counted(a, held...) {
			t.Fatalf("not counted: %v", held)
		}
	}
	a.Work(api.MaxNodes)
	tell(t, "the root", a.Count(h), 0)
	for i, p := range all {
		d := api.Doc{Id: 100 + i, Text: incoming()[i]}
		tell(t, d.Text, version.Check(a, p.Root(), 2, append(docs[:len(docs):len(docs)], d)...), true)
		drop(a, p.Root())
	}
	tell(t, "with nothing left", a.Used(), 0)
}

// need tells how many nodes there are ahead of each Step, and how many each Step makes, if Work frees what waits in between.
func need(t *testing.T, docs []api.Doc, rate int, d api.Doc) (used, made []int) {
	t.Helper()
	a := arena.New(api.MaxNodes)
	p := begun(t, a, built(t, a, listsOf(rate, docs...)), rate, d)
	for p.Left() > 0 {
		used = append(used, a.Used())
		was := a.Made()
		p.Step()
		made = append(made, a.Made()-was)
		a.Work(api.MaxNodes)
	}
	return used, made
}

// TestP1301Full: each room there may be, with Work between the Steps, and without: the first Step that has no room for all it
// makes tells so, and nothing is left of any.
func TestP1301Full(t *testing.T) {
	for _, x := range []struct {
		docs []api.Doc
		rate int
		text string
	}{
		{nil, 1, ""}, {nil, 2, "ab"}, {collections()[3], 1, "nan"}, {collections()[3], 4, "banana"}, {collections()[6], 2, "miss"},
	} {
		d := api.Doc{Id: 100, Text: x.text}
		used, made := need(t, x.docs, x.rate, d)
		for _, works := range []int{0, api.MaxNodes} {
			ends := 0
			for n := 0; ends < 3; n++ {
				a := arena.New(1500)
				h := built(t, a, listsOf(x.rate, x.docs...))
				room(t, a, n)
				was := counts(a)
				p := begun(t, a, h, x.rate, d)
				for k := range made {
					have := a.Used()
					if works > 0 {
						have = a.Size() - n + used[k] - used[0]
					}
					tell(t, "used", a.Used(), have)
					fits := have+made[k] <= a.Size()
					is, e := p.Step()
					want := []any{k == len(made)-1, api.OK}
					if !fits {
						want = []any{true, api.ErrFull}
					}
					tell(t, fmt.Sprintf("Step %d of %q, with room for %d", k, x.text, n), []any{is, e}, want)
					if is {
						break
					}
					a.Work(works)
				}
				g := p.Root()
				over(t, "the end", p, g)
				if g != 0 {
					ends++
					tell(t, "the version", version.Check(a, g, x.rate, append(x.docs[:len(x.docs):len(x.docs)], d)...), true)
				}
				drop(a, g)
				tell(t, "the counts", []any{counts(a), version.Check(a, h, x.rate, x.docs...)}, []any{was, true})
			}
		}
	}
}

// TestP1301FullAgain: what has had no room has it later, once it is begun anew.
func TestP1301FullAgain(t *testing.T) {
	a := arena.New(400)
	h := built(t, a, listsOf(2, collections()[3]...))
	d := api.Doc{Id: 1, Text: "nana"}
	var fill []int
	for a.Used() < a.Size()-60 {
		fill = append(fill, node(t, a, api.Node{Tag: api.TagLeaf, A: 1, B: 1}))
	}
	p := begun(t, a, h, 2, d)
	for p.Left() > 0 {
		p.Step()
		a.Work(api.MaxNodes)
	}
	over(t, "full", p, 0)
	drop(a, fill...)
	g := toTheEnd(t, a, begun(t, a, h, 2, d))
	tell(t, "again", version.Check(a, g, 2, append(collections()[3], d)...), true)
}

// TestP1301OddRoots: roots that somebody put together of what does not fit: each ends, with what the calls tell, and nothing
// is left of it.
func TestP1301OddRoots(t *testing.T) {
	a := arena.New(api.MaxNodes)
	docs := collections()[3]
	v := partsOf(a, built(t, a, listsOf(2, docs...)))
	small := partsOf(a, built(t, a, listsOf(2, docs[1:2]...)))
	many := vast(t, a)
	choices := []int{0, v.Wave, v.Marks, v.Spots, v.Table, small.Wave, small.Marks, small.Spots, small.Table, many.Wave, many.Marks, many.Spots}
	ends := map[api.Errno]int{}
	for n := range 12 * 12 * 12 * 12 {
		if n%13 > 0 {
			continue
		}
		h, e := version.Make(a, version.Parts{Wave: choices[n%12], Marks: choices[n/12%12], Spots: choices[n/144%12], Table: choices[n/1728]})
		was := counts(a)
		p, e := New(a, h, 2, 100, "na")
		if e != api.OK {
			ends[e]++
			tell(t, "New", []any{p == nil, e, table.Len(a, choices[n/1728])}, []any{true, api.ErrMany, 1 << 40})
			a.Drop(h)
			continue
		}
		for left := p.Left(); p.Left() > 0; left-- {
			var is bool
			if is, e = p.Step(); left == 0 || is != (p.Left() == 0) || e != api.OK && !is {
				t.Fatalf("%d: %v %d", n, is, e)
			}
		}
		ends[e]++
		if (p.Root() != 0) != (e == api.OK) {
			t.Fatalf("%d: the version is %d, %d", n, p.Root(), e)
		}
		drop(a, p.Root())
		if !slices.Equal(counts(a), was) {
			t.Fatalf("%d: something is left, %d", n, e)
		}
		a.Drop(h)
		a.Work(1)
	}
	if ends[api.OK] == 0 || ends[api.ErrRange] == 0 || ends[api.ErrMany] == 0 || len(ends) != 3 {
		t.Errorf("the ends: %v", ends)
	}
}

// vast are parts that are below themselves again and again: more rows than anybody can look at.
func vast(t *testing.T, a *arena.Arena) version.Parts {
	t.Helper()
	row := node(t, a, api.Node{Tag: api.TagLeaf, A: 0, B: 1})
	items := node(t, a, api.Node{Tag: api.TagItem, A: 1, B: 1})
	n := uint64(1)
	for range 40 {
		n *= 2
		row = node(t, a, api.Node{Tag: api.TagFork, Kids: [4]int{row, row}, A: n})
		items = node(t, a, api.Node{Tag: api.TagJoin, Kids: [4]int{items, items}, A: n})
	}
	symbols := 0
	for range api.Levels {
		symbols = node(t, a, api.Node{Tag: api.TagWave, Kids: [4]int{row, symbols}})
	}
	return version.Parts{Wave: symbols, Marks: row, Spots: items, Table: items}
}

// TestP1301TheErrorsOfTheCalls: where one part is shorter than the others, the Step that comes upon it tells ErrRange.
func TestP1301TheErrorsOfTheCalls(t *testing.T) {
	docs := collections()[3]
	for which := range 2 {
		a := arena.New(1000)
		l := listsOf(1, docs...)
		if which == 0 {
			l.marks = l.marks[:2]
		} else {
			l.spots = l.spots[:2]
		}
		h := built(t, a, l)
		was := counts(a)
		p := begun(t, a, h, 1, api.Doc{Id: 100, Text: "a"})
		goOn(t, p, 1)
		is, e := p.Step()
		tell(t, "the row of the end", []any{is, e}, []any{true, api.ErrRange})
		over(t, "behind it", p, 0)
		a.Work(api.MaxNodes)
		tell(t, "the counts", counts(a), was)
	}
}

func TestP1302HeldAndCounted(t *testing.T) {
	for _, docs := range collections() {
		for _, text := range incoming() {
			a := arena.New(api.MaxNodes)
			h := built(t, a, listsOf(3, docs...))
			p := begun(t, a, h, 3, api.Doc{Id: 100, Text: text})
			for p.Left() > 0 {
				held := p.Held()
				want := slices.DeleteFunc([]int{h, p.made.Wave, p.made.Marks, p.made.Spots, p.made.Table}, func(h int) bool { return h == 0 })
				slices.Sort(want)
				tell(t, "Held", held, want)
				mine := []int{}
				if h != 0 {
					mine = append(mine, h)
				}
				if !counted(a, append(mine, held...)...) {
					t.Fatalf("%q, %d left: not counted", text, p.Left())
				}
				a.Work(api.MaxNodes)
				tell(t, "no more than it needs", a.Used(), len(a.Reach(append(mine, held...)...)))
				p.Step()
			}
			tell(t, "Held, at the end", p.Held(), []int{})
			drop(a, h)
			if !counted(a, p.Root()) {
				t.Fatalf("%q: not counted at the end", text)
			}
			tell(t, "the version's alone", a.Used(), len(a.Reach(p.Root())))
		}
	}
}

// TestP1302WhatIsHeld: just what is made, and no part that is root's.
func TestP1302WhatIsHeld(t *testing.T) {
	a := arena.New(1000)
	h := built(t, a, listsOf(4, collections()[3]...))
	p := begun(t, a, h, 4, api.Doc{Id: 1, Text: "banana"})
	var l []int
	for range 8 {
		l = append(l, len(p.Held()))
		p.Step()
	}
	// The row of 6 has no mark, nor that of 5; that of 4 has one.
	tell(t, "how many", l, []int{1, 2, 4, 4, 5, 5, 5, 5})
	q := begun(t, a, 0, 4, api.Doc{Id: 1, Text: ""})
	tell(t, "of none", q.Held(), []int{})
	q.Step()
	tell(t, "its table", q.Held(), []int{q.made.Table})
}

func TestP1302StopAtEachStep(t *testing.T) {
	for _, docs := range collections() {
		a := arena.New(api.MaxNodes)
		h := built(t, a, listsOf(2, docs...))
		was := counts(a)
		for _, text := range incoming() {
			for n := range len(text) + 3 {
				p := begun(t, a, h, 2, api.Doc{Id: 100, Text: text})
				goOn(t, p, n)
				p.Stop()
				over(t, "Stop", p, 0)
				a.Work(api.MaxNodes)
				if !slices.Equal(counts(a), was) {
					t.Fatalf("%q: something is left behind %d Steps", text, n)
				}
			}
		}
		tell(t, "the root", version.Check(a, h, 2, docs...), true)
	}
}

func TestP1302RootStaysWhoseItIs(t *testing.T) {
	a := arena.New(1000)
	h := built(t, a, listsOf(2, collections()[3]...))
	p := begun(t, a, h, 2, api.Doc{Id: 1, Text: "ab"})
	tell(t, "with it", a.Count(h), 2)
	g := toTheEnd(t, a, p)
	for range 3 {
		tell(t, "Root", []int{p.Root(), a.Count(g), a.Count(h)}, []int{g, 1, 1})
		p.Stop()
		p.Step()
	}
	drop(a, h)
	tell(t, "the version alone", []any{a.Used(), counted(a, g)}, []any{len(a.Reach(g)), true})
	drop(a, g)
	tell(t, "nothing", a.Used(), 0)
	over(t, "also then", p, g)
}

func TestP1302HeldIsNewEachTime(t *testing.T) {
	a := arena.New(1000)
	p := begun(t, a, built(t, a, listsOf(2, collections()[3]...)), 2, api.Doc{Id: 1, Text: "ab"})
	goOn(t, p, 2)
	held := p.Held()
	want := fmt.Sprint(held)
	for i := range held {
		held[i] = -1
	}
	tell(t, "Held", p.Held(), want)
	p.Stop()
	tell(t, "Held, at the end", p.Held(), []int{})
}

func TestP1302NilAndZero(t *testing.T) {
	over(t, "nil", nil, 0)
	over(t, "zero", new(Put), 0)
}

package measure_test

import (
	"fmt"
	"math"
	"math/rand"
	"runtime"
	"slices"
	"strings"
	"testing"

	"vellum/api"
	"vellum/attrs"
	"vellum/build"
	"vellum/content"
	"vellum/measure"
	"vellum/ops"
)

const most = api.MaxLength

func num(key string, n int64) api.Attr {
	return api.Attr{Key: key, Value: api.Plain{Kind: api.KindNumber, Number: n}}
}

func words(s string) api.Plain        { return api.Plain{Kind: api.KindText, Text: s} }
func null(key string) api.Attr        { return api.Attr{Key: key} }
func repeated(s string, n int) string { return strings.Repeat(s, n) }
func of(list ...api.Op) []api.Op      { return list }

var bold = api.Attr{Key: "bold", Value: api.Plain{Kind: api.KindFlag, Number: 1}}

func text(s string, set ...api.Attr) api.Op { return api.Op{Kind: api.OpText, Text: s, Attrs: set} }
func del(n int) api.Op                      { return api.Op{Kind: api.OpDelete, Count: n} }

func retain(n int, patch ...api.Attr) api.Op {
	return api.Op{Kind: api.OpRetain, Count: n, Attrs: patch}
}

func embed(kind string, value api.Plain, set ...api.Attr) api.Op {
	return api.Op{Kind: api.OpEmbed, Text: kind, Value: value, Attrs: set}
}

// short tells of operations without the whole of long texts.
func short(list ...api.Op) string {
	var all strings.Builder
	for _, op := range list {
		fmt.Fprintf(&all, "{%d %.30q(%d) %.40v %d %.200v}", op.Kind, op.Text, len(op.Text), op.Value, op.Count, op.Attrs)
	}
	return all.String()
}

// told is a delta, or its lack, for a fault's words.
func told(d *build.Delta) string {
	if d == nil {
		return "no delta"
	}
	return short(d.Ops()...)
}

// The model: operations as plain data.

func isInsert(op api.Op) bool { return op.Kind == api.OpText || op.Kind == api.OpEmbed }

func isPlain(op api.Op) bool { return op.Kind == api.OpRetain && len(op.Attrs) == 0 }

// length is how many cells an operation makes, keeps or takes away.
func length(op api.Op) int {
	switch op.Kind {
	case api.OpText:
		return len([]rune(op.Text))
	case api.OpEmbed:
		return 1
	}
	return op.Count
}

// sizes are the base length, the result length, how many cells are inserted, and how many are deleted.
type sizes [4]int

// sized are the sizes of operations, each of the four reckoned by itself.
func sized(list []api.Op) sizes {
	var all sizes
	for _, op := range list {
		for i, counts := range [4]bool{!isInsert(op), op.Kind != api.OpDelete, isInsert(op), op.Kind == api.OpDelete} {
			if counts {
				all[i] += length(op)
			}
		}
	}
	return all
}

// isDocument tells whether there are inserts alone.
func isDocument(list []api.Op) bool {
	return !slices.ContainsFunc(list, func(op api.Op) bool { return !isInsert(op) })
}

// single are inserts as inserts of one cell each.
func single(list []api.Op) []api.Op {
	var all []api.Op
	for _, op := range list {
		if op.Kind == api.OpEmbed {
			all = append(all, op)
			continue
		}
		for _, r := range op.Text {
			all = append(all, text(string(r), op.Attrs...))
		}
	}
	return all
}

// joined are two neighbours as one, if they may be that.
func joined(a, b api.Op) (api.Op, bool) {
	if a.Kind != b.Kind || a.Kind == api.OpEmbed || !slices.Equal(a.Attrs, b.Attrs) {
		return api.Op{}, false
	}
	a.Text += b.Text
	a.Count += b.Count
	return a, true
}

// rewritten are operations made canonical by single steps: an insert goes ahead of the delete that it stands behind, neighbours are joined, what is empty and a plain retain at the end goes.
func rewritten(list []api.Op) []api.Op {
	list = slices.DeleteFunc(slices.Clone(list), func(op api.Op) bool { return length(op) == 0 })
	for at := 1; at < len(list); {
		a, b := list[at-1], list[at]
		whole, join := joined(a, b)
		switch {
		case a.Kind == api.OpDelete && isInsert(b):
			list[at-1], list[at] = b, a
		case join:
			list = slices.Replace(list, at-1, at+1, whole)
		default:
			at++
			continue
		}
		at = max(at-1, 1)
	}
	for len(list) > 0 && isPlain(list[len(list)-1]) {
		list = list[:len(list)-1]
	}
	return list
}

// isLong tells whether operations are too long to be a delta.
func isLong(list []api.Op) bool {
	all := sized(list)
	return all[0] > most || all[1] > most
}

// slice is what Slice answers.
func slice(list []api.Op, from, to int) ([]api.Op, error) {
	if !isDocument(list) {
		return nil, api.ErrOp
	}
	cells := single(list)
	if from < 0 || to < from || to > len(cells) {
		return nil, api.ErrRange
	}
	return rewritten(cells[from:to]), nil
}

// concat is what Concat answers.
func concat(a, b []api.Op) ([]api.Op, error) {
	both := slices.Concat(a, b)
	if isLong(both) {
		return nil, api.ErrLong
	}
	return rewritten(both), nil
}

// shift is what Shift answers.
func shift(list []api.Op, n int) ([]api.Op, error) {
	if n < 0 || n > most {
		return nil, api.ErrRange
	}
	if len(list) == 0 {
		return nil, nil
	}
	all := slices.Concat(of(retain(n)), list)
	if isLong(all) {
		return nil, api.ErrLong
	}
	return rewritten(all), nil
}

// edited are cells behind the edit of operations, told cell by cell as the section Deltas does.
func edited(t *testing.T, list []api.Op, doc []api.Cell) []api.Cell {
	t.Helper()
	var all []api.Cell
	for _, op := range list {
		switch op.Kind {
		case api.OpDelete:
			doc = doc[op.Count:]
		case api.OpRetain:
			for _, cell := range doc[:op.Count] {
				set, err := attrs.Apply(cell.Attrs, op.Attrs)
				if err != nil {
					t.Fatal(err)
				}
				cell.Attrs = set
				all = append(all, cell)
			}
			doc = doc[op.Count:]
		default:
			made, err := content.Cells(op)
			if err != nil {
				t.Fatal(err)
			}
			all = append(all, made...)
		}
	}
	return append(all, doc...)
}

// cells are n cells from a scalar on, no two with one content, each with a set.
func cells(first rune, n int) []api.Cell {
	var all []api.Cell
	for i := range n {
		all = append(all, api.Cell{Rune: first + rune(i), Attrs: []api.Attr{bold, num("d", 4)}})
	}
	return all
}

func sameCells(a, b []api.Cell) bool {
	return slices.EqualFunc(a, b, func(a, b api.Cell) bool {
		return a.Rune == b.Rune && a.Kind == b.Kind && a.Value == b.Value && slices.Equal(a.Attrs, b.Attrs)
	})
}

// The operations that are gone through.

// inserts are those of few that make cells: they may and may not be joined, in every way.
func inserts() []api.Op {
	return of(
		text("a"), text("\u00e9\u20ac\U0001f600\n"), text("ab", bold), text("\U0010ffff\x00c", num("bold", 1)), text("b", bold, num("c", 1)),
		embed("a", api.Plain{}), embed("\u00e9b", words("xyz"), bold),
	)
}

// few are operations that go together in every way.
func few() []api.Op {
	return append(inserts(), retain(1), retain(3), retain(2, bold), retain(3, bold, num("c", 1)), retain(2, null("bold")), del(1), del(3))
}

// long are operations whose lengths sum to about the bound.
func long() []api.Op {
	return of(retain(most-3, bold), retain(most/2), retain(1, null("b")), del(most), del(most-5), del(most/2), del(1), text("a"), text("abc", bold), embed("x", words("y")))
}

// eachList goes over all lists of at most so many of the operations.
func eachList(all []api.Op, longest int, visit func(list []api.Op)) {
	var grow func(list []api.Op)
	grow = func(list []api.Op) {
		visit(list)
		if len(list) == longest {
			return
		}
		for _, op := range all {
			grow(append(slices.Clip(list), op))
		}
	}
	grow(nil)
}

// deltas are those of all lists of at most so many of the operations, each delta once.
func deltas(all []api.Op, longest int) []*build.Delta {
	var list []*build.Delta
	eachList(all, longest, func(gathered []api.Op) {
		if d, _, err := build.Of(gathered); err == nil && ops.Same(d.Ops(), gathered) {
			list = append(list, d)
		}
	})
	return list
}

// made is the delta of operations.
func made(t *testing.T, list ...api.Op) *build.Delta {
	t.Helper()
	d, n, err := build.Of(list)
	if err != nil {
		t.Fatalf("Of(%s) = %d, %v", short(list...), n, err)
	}
	return d
}

// someDelta is the delta of up to so many of the operations, by chance.
func someDelta(t *testing.T, chance *rand.Rand, all []api.Op, longest int) *build.Delta {
	t.Helper()
	var list []api.Op
	for range chance.Intn(longest + 1) {
		list = append(list, all[chance.Intn(len(all))])
	}
	return made(t, list...)
}

// compare holds what a call answers against its operations, or its error.
func compare(t *testing.T, what string, d *build.Delta, err error, want []api.Op, fault error) {
	t.Helper()
	if err != fault || (d == nil) != (fault != nil) {
		t.Fatalf("%s: %s, %v; asked is %s, %v", what, told(d), err, short(want...), fault)
	}
	if d != nil && !ops.Same(d.Ops(), want) {
		t.Fatalf("%s: %s, not %s", what, told(d), short(want...))
	}
}

func compareLengths(t *testing.T, d *build.Delta) {
	t.Helper()
	list := d.Ops()
	got := sizes{measure.Base(d), measure.Result(d), measure.Inserted(d), measure.Deleted(d)}
	if want := sized(list); got != want {
		t.Fatalf("the sizes of %s are %v, not %v", short(list...), got, want)
	}
	if measure.Document(d) != isDocument(list) {
		t.Fatalf("Document(%s) = %v", short(list...), measure.Document(d))
	}
}

func compareSlice(t *testing.T, d *build.Delta, from, to int) {
	t.Helper()
	list := d.Ops()
	want, fault := slice(list, from, to)
	s, err := measure.Slice(d, from, to)
	compare(t, fmt.Sprintf("Slice(%s, %d, %d)", short(list...), from, to), s, err, want, fault)
}

func compareConcat(t *testing.T, a, b *build.Delta) {
	t.Helper()
	ahead, behind := a.Ops(), b.Ops()
	want, fault := concat(ahead, behind)
	d, err := measure.Concat(a, b)
	compare(t, fmt.Sprintf("Concat(%s, %s)", short(ahead...), short(behind...)), d, err, want, fault)
}

func compareShift(t *testing.T, d *build.Delta, n int) {
	t.Helper()
	list := d.Ops()
	want, fault := shift(list, n)
	s, err := measure.Shift(d, n)
	compare(t, fmt.Sprintf("Shift(%s, %d)", short(list...), n), s, err, want, fault)
}

// P8.1: every call answers what is told.

func TestP8_1LengthsExamples(t *testing.T) {
	for _, x := range []struct {
		list     []api.Op
		want     sizes
		document bool
	}{
		{nil, sizes{}, true},
		{of(retain(3, bold), text("ab"), del(2)), sizes{5, 5, 2, 2}, false},
		{of(text("ab"), embed("x", words("long"))), sizes{0, 3, 3, 0}, true},
		{of(text("a\u00e9\u20ac\U0001f600\n")), sizes{0, 5, 5, 0}, true},
		{of(embed("four", api.Plain{}), embed("four", api.Plain{})), sizes{0, 2, 2, 0}, true},
		{of(retain(2, bold)), sizes{2, 2, 0, 0}, false},
		{of(retain(2, null("bold"))), sizes{2, 2, 0, 0}, false},
		{of(del(2)), sizes{2, 0, 0, 2}, false},
		{of(text("a"), del(1)), sizes{1, 1, 1, 1}, false},
		{of(retain(1), text("a")), sizes{1, 2, 1, 0}, false},
		{of(text("a"), retain(4)), sizes{0, 1, 1, 0}, true},
		{of(retain(most)), sizes{}, true},
		{of(retain(1), del(2), retain(4), text("abc"), retain(8, bold), embed("x", api.Plain{})), sizes{15, 17, 4, 2}, false},
		{of(del(most)), sizes{most, 0, 0, most}, false},
		{of(retain(most, bold)), sizes{most, most, 0, 0}, false},
		{of(text("ab"), del(most)), sizes{most, 2, 2, most}, false},
		{of(text("a"), retain(most-1, bold), del(1)), sizes{most, most, 1, 1}, false},
	} {
		d := made(t, x.list...)
		got := sizes{measure.Base(d), measure.Result(d), measure.Inserted(d), measure.Deleted(d)}
		if got != x.want || measure.Document(d) != x.document {
			t.Errorf("%s: %v, %v", short(x.list...), got, measure.Document(d))
		}
		compareLengths(t, d)
	}
}

func TestP8_1Lengths(t *testing.T) {
	for _, d := range slices.Concat(deltas(few(), 3), deltas(long(), 4)) {
		compareLengths(t, d)
	}
	chance := rand.New(rand.NewSource(81))
	for range 300 {
		compareLengths(t, someDelta(t, chance, few(), 60))
	}
}

func TestP8_1SliceExamples(t *testing.T) {
	short := of(text("ab", bold), text("cd"))
	mixed := of(text("\u00e9\u20ac", bold), embed("x", words("y")), embed("x", words("y")), text("\U0001f600b"))
	for _, x := range []struct {
		doc      []api.Op
		from, to int
		want     []api.Op
		err      error
	}{
		{short, 1, 3, of(text("b", bold), text("c")), nil},
		{short, 2, 2, nil, nil},
		{short, 0, 0, nil, nil},
		{short, 4, 4, nil, nil},
		{short, 0, 4, short, nil},
		{short, 2, 4, of(text("cd")), nil},
		{short, 3, 2, nil, api.ErrRange},
		{short, -1, 2, nil, api.ErrRange},
		{short, -1, -1, nil, api.ErrRange},
		{short, 0, 5, nil, api.ErrRange},
		{short, 5, 5, nil, api.ErrRange},
		{short, math.MinInt, math.MaxInt, nil, api.ErrRange},
		{short, math.MaxInt, math.MinInt, nil, api.ErrRange},
		{short, 1, 1<<32 + 2, nil, api.ErrRange},
		{mixed, 1, 3, of(text("\u20ac", bold), embed("x", words("y"))), nil},
		{mixed, 2, 4, of(embed("x", words("y")), embed("x", words("y"))), nil},
		{mixed, 3, 5, of(embed("x", words("y")), text("\U0001f600")), nil},
		{mixed, 5, 6, of(text("b")), nil},
		{nil, 0, 0, nil, nil},
		{nil, 0, 1, nil, api.ErrRange},
		{nil, 1, 0, nil, api.ErrRange},
		{of(del(1)), 0, 0, nil, api.ErrOp},
		{of(text("ab"), del(1)), 0, 1, nil, api.ErrOp},
		{of(text("ab"), retain(1, bold)), 0, 1, nil, api.ErrOp},
		{of(retain(1), text("ab")), 2, 1, nil, api.ErrOp},
		{of(del(most)), -1, most, nil, api.ErrOp},
	} {
		s, err := measure.Slice(made(t, x.doc...), x.from, x.to)
		compare(t, fmt.Sprintf("Slice from %d to %d", x.from, x.to), s, err, x.want, x.err)
		compareSlice(t, made(t, x.doc...), x.from, x.to)
	}
}

func TestP8_1Slices(t *testing.T) {
	for _, d := range deltas(inserts(), 3) {
		n := sized(d.Ops())[1]
		for from := -1; from <= n+1; from++ {
			for to := -1; to <= n+1; to++ {
				compareSlice(t, d, from, to)
			}
		}
		for _, far := range []int{most, -most, math.MaxInt, math.MinInt, 1 << 32, -1 << 32} {
			compareSlice(t, d, far, far)
			compareSlice(t, d, 0, far)
			compareSlice(t, d, far, 0)
		}
	}
}

func TestP8_1SlicesOfNoDocument(t *testing.T) {
	for _, d := range slices.Concat(deltas(few(), 2), deltas(long(), 3)) {
		for _, from := range []int{-1, 0, 1, 2} {
			for _, to := range []int{0, 1, 3, most} {
				compareSlice(t, d, from, to)
			}
		}
	}
}

func TestP8_1SlicesByChance(t *testing.T) {
	chance := rand.New(rand.NewSource(82))
	for range 300 {
		d := someDelta(t, chance, inserts(), 40)
		n := sized(d.Ops())[1]
		for range 20 {
			compareSlice(t, d, chance.Intn(n+2), chance.Intn(n+2))
		}
	}
}

func TestP8_1ConcatExamples(t *testing.T) {
	k := num("k", 1)
	for _, x := range []struct {
		a, b, want []api.Op
		err        error
	}{
		{nil, nil, nil, nil},
		{of(retain(1), del(2)), of(text("x")), of(retain(1), text("x"), del(2)), nil},
		{of(text("a")), of(retain(2, bold)), of(text("a"), retain(2, bold)), nil},
		{of(text("a", k)), of(text("b", k)), of(text("ab", k)), nil},
		{of(text("a", k)), of(text("b")), of(text("a", k), text("b")), nil},
		{of(embed("x", words("y"))), of(embed("x", words("y"))), of(embed("x", words("y")), embed("x", words("y"))), nil},
		{of(retain(1, k)), of(retain(2, k), del(1)), of(retain(3, k), del(1)), nil},
		{of(retain(1, k)), of(retain(2), del(1)), of(retain(1, k), retain(2), del(1)), nil},
		{of(del(1)), of(del(2)), of(del(3)), nil},
		{of(text("a"), del(1)), of(text("b"), del(2)), of(text("ab"), del(3)), nil},
		{of(text("a"), del(1)), of(embed("x", words("y")), retain(1, k)), of(text("a"), embed("x", words("y")), del(1), retain(1, k)), nil},
		{nil, of(retain(1), del(1)), of(retain(1), del(1)), nil},
		{of(retain(1), del(1)), nil, of(retain(1), del(1)), nil},
		// What lies behind the last operation isn't there.
		{of(text("a"), retain(5)), of(del(1)), of(text("a"), del(1)), nil},
		{of(del(1)), of(retain(5)), of(del(1)), nil},
		// The base lengths, the result lengths, and both of them, at the bound and above it.
		{of(del(most - 1)), of(del(1)), of(del(most)), nil},
		{of(del(most)), of(text("a")), of(text("a"), del(most)), nil},
		{of(del(most)), of(del(1)), nil, api.ErrLong},
		{of(del(most)), of(del(most)), nil, api.ErrLong},
		{of(del(1)), of(retain(most, bold)), nil, api.ErrLong},
		{of(retain(most-1, bold)), of(text("a")), of(retain(most-1, bold), text("a")), nil},
		{of(retain(most, bold)), of(text("a")), nil, api.ErrLong},
		{of(text("a")), of(retain(most, bold)), nil, api.ErrLong},
		{of(embed("x", api.Plain{})), of(retain(most, bold)), nil, api.ErrLong},
		{of(retain(most/2, bold)), of(retain(most/2, bold)), of(retain(most, bold)), nil},
		{of(retain(most/2, bold)), of(retain(most/2+1, bold)), nil, api.ErrLong},
		{of(retain(most, bold)), of(retain(most, k)), nil, api.ErrLong},
	} {
		a, b := made(t, x.a...), made(t, x.b...)
		d, err := measure.Concat(a, b)
		compare(t, fmt.Sprintf("Concat of %s and %s", short(x.a...), short(x.b...)), d, err, x.want, x.err)
		compareConcat(t, a, b)
	}
}

func TestP8_1Concats(t *testing.T) {
	all := deltas(few(), 2)
	for _, a := range all {
		for _, b := range all {
			compareConcat(t, a, b)
		}
	}
	chance := rand.New(rand.NewSource(83))
	for range 500 {
		compareConcat(t, someDelta(t, chance, few(), 30), someDelta(t, chance, few(), 30))
	}
}

func TestP8_1ConcatsAboutTheBound(t *testing.T) {
	all := deltas(long(), 3)
	chance := rand.New(rand.NewSource(84))
	for _, a := range all {
		for range 60 {
			compareConcat(t, a, all[chance.Intn(len(all))])
		}
	}
}

// Side by side, each operation's edit is done to its own cells.
func TestP8_1ConcatEdit(t *testing.T) {
	all := deltas(few(), 2)
	for _, a := range all {
		for _, b := range all {
			d, err := measure.Concat(a, b)
			if err != nil {
				t.Fatal(err)
			}
			ahead, behind := cells(0x1000, sized(a.Ops())[0]), cells(0x2000, sized(b.Ops())[0]+1)
			want := slices.Concat(edited(t, a.Ops(), ahead), edited(t, b.Ops(), behind))
			if !sameCells(edited(t, d.Ops(), slices.Concat(ahead, behind)), want) {
				t.Fatalf("the edit of %s isn't that of %s and %s", told(d), told(a), told(b))
			}
		}
	}
}

func TestP8_1ShiftExamples(t *testing.T) {
	for _, x := range []struct {
		list []api.Op
		n    int
		want []api.Op
		err  error
	}{
		{of(del(2)), 3, of(retain(3), del(2)), nil},
		{of(retain(1, bold)), 3, of(retain(3), retain(1, bold)), nil},
		{of(retain(1), del(1)), 3, of(retain(4), del(1)), nil},
		{of(text("a"), del(1)), 1, of(retain(1), text("a"), del(1)), nil},
		{of(embed("x", words("y"))), 1, of(retain(1), embed("x", words("y"))), nil},
		{of(retain(1, null("bold")), retain(2), text("a")), 5, of(retain(5), retain(1, null("bold")), retain(2), text("a")), nil},
		{of(text("a")), 0, of(text("a")), nil},
		{nil, 0, nil, nil},
		{nil, 1, nil, nil},
		{nil, most, nil, nil},
		{of(retain(3)), most, nil, nil},
		// Even of the empty delta.
		{nil, -1, nil, api.ErrRange},
		{nil, most + 1, nil, api.ErrRange},
		{nil, math.MaxInt, nil, api.ErrRange},
		{nil, math.MinInt, nil, api.ErrRange},
		{of(del(1)), -1, nil, api.ErrRange},
		{of(del(1)), most + 1, nil, api.ErrRange},
		{of(del(most)), most + 1, nil, api.ErrRange},
		{of(del(most)), math.MinInt, nil, api.ErrRange},
		// The base length alone, the result length alone, both of them, at the bound and above it.
		{of(del(1)), most - 1, of(retain(most-1), del(1)), nil},
		{of(del(1)), most, nil, api.ErrLong},
		{of(del(most)), 0, of(del(most)), nil},
		{of(del(most)), 1, nil, api.ErrLong},
		{of(text("a")), most - 1, of(retain(most-1), text("a")), nil},
		{of(text("a")), most, nil, api.ErrLong},
		{of(embed("x", api.Plain{})), most, nil, api.ErrLong},
		{of(retain(2, bold)), most - 2, of(retain(most-2), retain(2, bold)), nil},
		{of(retain(2, bold)), most - 1, nil, api.ErrLong},
		{of(retain(most, bold)), most, nil, api.ErrLong},
		{of(retain(most-1), del(1)), 1, nil, api.ErrLong},
	} {
		d := made(t, x.list...)
		s, err := measure.Shift(d, x.n)
		compare(t, fmt.Sprintf("Shift of %s by %d", short(x.list...), x.n), s, err, x.want, x.err)
		compareShift(t, d, x.n)
	}
}

// steps are how far deltas are shifted.
func steps() []int {
	return []int{0, 1, 2, 5, most/2 - 1, most / 2, most - 6, most - 5, most - 4, most - 3, most - 2, most - 1, most, most + 1, 1<<32 + 1, -1, -2, -most, math.MaxInt, math.MinInt}
}

func TestP8_1Shifts(t *testing.T) {
	for _, d := range slices.Concat(deltas(few(), 3), deltas(long(), 3)) {
		for _, n := range steps() {
			compareShift(t, d, n)
		}
	}
}

// What is shifted leaves the cells that it goes by as they are.
func TestP8_1ShiftEdit(t *testing.T) {
	for _, d := range deltas(few(), 3) {
		for n := range 4 {
			s, err := measure.Shift(d, n)
			if err != nil {
				t.Fatal(err)
			}
			ahead, behind := cells(0x1000, n), cells(0x2000, sized(d.Ops())[0]+1)
			want := slices.Concat(ahead, edited(t, d.Ops(), behind))
			if !sameCells(edited(t, s.Ops(), slices.Concat(ahead, behind)), want) {
				t.Fatalf("the edit of %s isn't that of %s behind %d cells", told(s), told(d), n)
			}
		}
	}
}

// P8.2: the lengths hang together.
func TestP8_2Lengths(t *testing.T) {
	for _, d := range slices.Concat(deltas(few(), 3), deltas(long(), 4)) {
		base, result := measure.Base(d), measure.Result(d)
		if result != base-measure.Deleted(d)+measure.Inserted(d) {
			t.Fatalf("Result %d, Base %d, Deleted %d, Inserted %d of %s", result, base, measure.Deleted(d), measure.Inserted(d), told(d))
		}
		if measure.Document(d) != (base == 0) {
			t.Fatalf("Document %v, Base %d of %s", measure.Document(d), base, told(d))
		}
	}
}

// P8.3: cut and joined.

// cut is a Slice that isn't refused, with as many cells as are told.
func cut(t *testing.T, doc *build.Delta, from, to int) *build.Delta {
	t.Helper()
	s, err := measure.Slice(doc, from, to)
	if err != nil || !measure.Document(s) || measure.Result(s) != to-from || !ops.Canonical(s.Ops()) {
		t.Fatalf("Slice(%s, %d, %d) = %s, %v", told(doc), from, to, told(s), err)
	}
	return s
}

// compareCuts cuts a document behind k cells, and its slices from a place to another one.
func compareCuts(t *testing.T, doc *build.Delta, k, from, to int) {
	t.Helper()
	n := measure.Result(doc)
	again, err := measure.Concat(cut(t, doc, 0, k), cut(t, doc, k, n))
	if err != nil || !build.Same(again, doc) {
		t.Fatalf("%s cut behind %d is %s, %v", told(doc), k, told(again), err)
	}
	s := cut(t, doc, from, to)
	for i := 0; i <= to-from; i++ {
		for j := i; j <= to-from; j++ {
			if !build.Same(cut(t, s, i, j), cut(t, doc, from+i, from+j)) {
				t.Fatalf("the Slice from %d to %d of that from %d to %d of %s is another one", i, j, from, to, told(doc))
			}
		}
	}
}

func TestP8_3Cuts(t *testing.T) {
	for _, d := range deltas(inserts(), 2) {
		n := measure.Result(d)
		for k := range n + 1 {
			for from := range n + 1 {
				compareCuts(t, d, k, from, min(from+k, n))
			}
		}
	}
}

func TestP8_3CutsByChance(t *testing.T) {
	chance := rand.New(rand.NewSource(85))
	for range 300 {
		d := someDelta(t, chance, inserts(), 40)
		n := measure.Result(d)
		from := chance.Intn(n + 1)
		compareCuts(t, d, chance.Intn(n+1), from, min(from+chance.Intn(9), n))
	}
}

// P8.4: one behind the other.

// behind are three deltas one behind the other, the first two joined first if first is true, else the last two.
func behind(a, b, c *build.Delta, first bool) (*build.Delta, error) {
	if !first {
		both, err := measure.Concat(b, c)
		if err != nil {
			return nil, err
		}
		return measure.Concat(a, both)
	}
	both, err := measure.Concat(a, b)
	if err != nil {
		return nil, err
	}
	return measure.Concat(both, c)
}

// compareThree holds that it is all one from which side three deltas are joined. (As lengths add up, both sides are refused alike.)
func compareThree(t *testing.T, a, b, c *build.Delta) {
	t.Helper()
	left, leftErr := behind(a, b, c, true)
	right, rightErr := behind(a, b, c, false)
	if leftErr != rightErr || leftErr == nil && !build.Same(left, right) {
		t.Fatalf("%s, %s, %s: %s, %v from the left, %s, %v from the right", told(a), told(b), told(c), told(left), leftErr, told(right), rightErr)
	}
}

// compareSums holds that lengths add up.
func compareSums(t *testing.T, a, b *build.Delta) {
	t.Helper()
	d, err := measure.Concat(a, b)
	if err != nil {
		return
	}
	for i, size := range []func(d *build.Delta) int{measure.Base, measure.Result, measure.Inserted, measure.Deleted} {
		if size(d) != size(a)+size(b) {
			t.Fatalf("size %d of %s is %d, of %s and %s %d and %d", i, told(d), size(d), told(a), told(b), size(a), size(b))
		}
	}
	if measure.Document(d) != (measure.Document(a) && measure.Document(b)) {
		t.Fatalf("Document(%s) = %v", told(d), measure.Document(d))
	}
}

func TestP8_4Three(t *testing.T) {
	all := deltas(few(), 1)
	for _, a := range all {
		for _, b := range all {
			for _, c := range all {
				compareThree(t, a, b, c)
			}
		}
	}
	chance := rand.New(rand.NewSource(86))
	for _, all := range [][]*build.Delta{deltas(few(), 3), deltas(long(), 3)} {
		for range 4000 {
			compareThree(t, all[chance.Intn(len(all))], all[chance.Intn(len(all))], all[chance.Intn(len(all))])
		}
	}
}

func TestP8_4Empty(t *testing.T) {
	for _, d := range slices.Concat(deltas(few(), 3), deltas(long(), 4)) {
		for _, empty := range []*build.Delta{build.Empty(), made(t, retain(most))} {
			ahead, err := measure.Concat(empty, d)
			compare(t, "Concat behind the empty delta", ahead, err, d.Ops(), nil)
			behind, err := measure.Concat(d, empty)
			compare(t, "Concat ahead of the empty delta", behind, err, d.Ops(), nil)
		}
	}
}

func TestP8_4Sums(t *testing.T) {
	all := deltas(few(), 2)
	for _, a := range all {
		for _, b := range all {
			compareSums(t, a, b)
		}
	}
	chance := rand.New(rand.NewSource(87))
	all = deltas(long(), 3)
	for range 10000 {
		compareSums(t, all[chance.Intn(len(all))], all[chance.Intn(len(all))])
	}
}

// P8.5: shifted.

// compareTwice shifts by m and then by n, and by both together.
func compareTwice(t *testing.T, d *build.Delta, m, n int) {
	t.Helper()
	both, err := measure.Shift(d, m+n)
	if err != nil {
		return
	}
	once, err := measure.Shift(d, m)
	if err != nil {
		t.Fatalf("Shift(%s, %d): %v", told(d), m, err)
	}
	twice, err := measure.Shift(once, n)
	compare(t, fmt.Sprintf("Shift of %s by %d and %d", told(d), m, n), twice, err, both.Ops(), nil)
}

func TestP8_5Twice(t *testing.T) {
	var good []int
	for _, n := range steps() {
		if n >= 0 && n <= most {
			good = append(good, n)
		}
	}
	for _, d := range slices.Concat(deltas(few(), 2), deltas(long(), 3)) {
		for _, m := range good {
			for _, n := range good {
				compareTwice(t, d, m, n)
			}
		}
	}
}

func TestP8_5By0(t *testing.T) {
	for _, d := range slices.Concat(deltas(few(), 3), deltas(long(), 4)) {
		s, err := measure.Shift(d, 0)
		compare(t, "Shift by 0", s, err, d.Ops(), nil)
	}
}

// The rules (P1): what is handed in isn't changed, and what is written into an answer's lists isn't seen elsewhere.

// answers are the deltas that calls make of a document and another delta.
func answers(t *testing.T, doc, d *build.Delta) []*build.Delta {
	t.Helper()
	var all []*build.Delta
	add := func(d *build.Delta, err error) {
		if err != nil {
			t.Fatal(err)
		}
		all = append(all, d)
	}
	for k := range measure.Result(doc) + 1 {
		add(measure.Slice(doc, 0, k))
		add(measure.Slice(doc, k, measure.Result(doc)))
		add(measure.Shift(d, k))
	}
	add(measure.Concat(doc, d))
	add(measure.Concat(d, doc))
	add(measure.Concat(d, d))
	add(measure.Concat(d, build.Empty()))
	return append(all, doc, d)
}

// spoil writes into all lists that a delta answers, their spare room included.
func spoil(d *build.Delta) {
	for _, op := range d.Ops() {
		clear(op.Attrs[:cap(op.Attrs)])
	}
	for _, piece := range d.Pieces() {
		switch piece := piece.(type) {
		case api.Insert:
			clear(piece.Attrs[:cap(piece.Attrs)])
		case api.Embed:
			clear(piece.Attrs[:cap(piece.Attrs)])
		case api.Retain:
			clear(piece.Attrs[:cap(piece.Attrs)])
		}
	}
}

func TestNothingIsShared(t *testing.T) {
	pack := func() (doc, d *build.Delta) {
		a, b := num("a", 1), num("b", 2)
		return made(t, text("ab", a, b), embed("x", words("y"), a, b), text("c", b)), made(t, retain(2, a, b), text("ab", a, b), del(1))
	}
	doc, d := pack()
	all := answers(t, doc, d)
	want := answers(t, doc, d)
	for i := range all {
		spoil(all[i])
		for j := range all {
			if !ops.Same(all[j].Ops(), want[j].Ops()) {
				t.Fatalf("a write into answer %d is seen in answer %d", i, j)
			}
		}
	}
	freshDoc, fresh := pack()
	for i, answer := range answers(t, freshDoc, fresh) {
		if !ops.Same(answer.Ops(), all[i].Ops()) || !ops.Canonical(answer.Ops()) {
			t.Fatalf("answer %d is %s, not %s", i, told(all[i]), told(answer))
		}
	}
}

// What a call makes hangs on its arguments alone, and a refused one leaves them as they are.
func TestArgumentsStay(t *testing.T) {
	chance := rand.New(rand.NewSource(88))
	for range 200 {
		a, b := someDelta(t, chance, few(), 8), someDelta(t, chance, few(), 8)
		ahead, behind := a.Ops(), b.Ops()
		for range 2 {
			compareConcat(t, a, b)
			compareShift(t, a, chance.Intn(3)-1)
			compareSlice(t, b, chance.Intn(4)-1, chance.Intn(9)-1)
			compareLengths(t, a)
		}
		if !ops.Same(a.Ops(), ahead) || !ops.Same(b.Ops(), behind) {
			t.Fatalf("%s and %s are %s and %s now", short(ahead...), short(behind...), told(a), told(b))
		}
	}
}

// A document of many operations, or of a long text, is cut and joined in memory, and time, by its length and not by the square of it.
func TestLongDocuments(t *testing.T) {
	const parts = 1 << 15
	b := build.New()
	for i := range parts {
		if err := b.Text("ab", []api.Attr{num("n", int64(i))}); err != nil {
			t.Fatal(err)
		}
	}
	for i, doc := range []*build.Delta{b.Delta(), made(t, text(repeated("\u20ac", 2*parts)))} {
		var ahead, behind runtime.MemStats
		runtime.ReadMemStats(&ahead)
		compareLengths(t, doc)
		again, err := measure.Concat(cut(t, doc, 0, parts+1), cut(t, doc, parts+1, 2*parts))
		if err != nil || !build.Same(again, doc) {
			t.Fatalf("document %d isn't cut and joined: %v", i, err)
		}
		runtime.ReadMemStats(&behind)
		if used := (behind.TotalAlloc - ahead.TotalAlloc) / parts; used > 1<<14 {
			t.Errorf("document %d takes %d bytes a part", i, used)
		}
	}
}

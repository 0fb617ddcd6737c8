package walk_test

import (
	"fmt"
	"math"
	"math/rand"
	"runtime"
	"slices"
	"strings"
	"testing"

	"vellum/api"
	"vellum/build"
	"vellum/ops"
	"vellum/values"
	"vellum/walk"
)

const most = api.MaxLength

func num(key string, n int64) api.Attr {
	return api.Attr{Key: key, Value: api.Plain{Kind: api.KindNumber, Number: n}}
}

func words(s string) api.Plain        { return api.Plain{Kind: api.KindText, Text: s} }
func null(key string) api.Attr        { return api.Attr{Key: key} }
func repeated(s string, n int) string { return strings.Repeat(s, n) }
func of(list ...api.Op) []api.Op      { return list }

var bold = api.Attr{Key: "bold", Value: api.Plain{Kind: api.KindFlag, Number: 1}}

func text(s string, set ...api.Attr) api.Op { return api.Op{Kind: api.OpText, Text: s, Attrs: set} }
func del(n int) api.Op                      { return api.Op{Kind: api.OpDelete, Count: n} }

func retain(n int, patch ...api.Attr) api.Op {
	return api.Op{Kind: api.OpRetain, Count: n, Attrs: patch}
}

func embed(kind string, value api.Plain, set ...api.Attr) api.Op {
	return api.Op{Kind: api.OpEmbed, Text: kind, Value: value, Attrs: set}
}

// short tells of operations without the whole of long texts.
func short(list ...api.Op) string {
	var all strings.Builder
	for _, op := range list {
		fmt.Fprintf(&all, "{%d %.30q(%d) %.40v %d %.200v}", op.Kind, op.Text, len(op.Text), op.Value, op.Count, op.Attrs)
	}
	return all.String()
}

// The model: operations as plain data; texts are lists of scalars, cut by their numbers.

func isInsert(op api.Op) bool { return op.Kind == api.OpText || op.Kind == api.OpEmbed }

func isPlain(op api.Op) bool { return op.Kind == api.OpRetain && len(op.Attrs) == 0 }

// length is how many cells an operation makes, keeps or takes away.
func length(op api.Op) int {
	switch op.Kind {
	case api.OpText:
		return len([]rune(op.Text))
	case api.OpEmbed:
		return 1
	}
	return op.Count
}

// lengths are the lengths of operations, summed.
func lengths(list []api.Op) int {
	sum := 0
	for _, op := range list {
		sum += length(op)
	}
	return sum
}

// part is an operation's cells from one number on, up to another one.
func part(op api.Op, from, to int) api.Op {
	switch op.Kind {
	case api.OpText:
		op.Text = string([]rune(op.Text)[from:to])
	case api.OpRetain, api.OpDelete:
		op.Count = to - from
	}
	return op
}

// parted are a piece of the first operation, of at most n cells, and what is left of the list behind it.
func parted(list []api.Op, n int) (api.Op, []api.Op) {
	if len(list) == 0 {
		return retain(min(n, most)), nil
	}
	op, all := list[0], length(list[0])
	if n >= all {
		return op, list[1:]
	}
	return part(op, 0, n), slices.Concat(of(part(op, n, all)), list[1:])
}

// pair is a step; an operation without a kind stands for nil.
type pair [2]api.Op

// steps are the steps of two lists, by the three cases of the chapter.
func steps(a, b []api.Op) []pair {
	var all []pair
	for len(a)+len(b) > 0 {
		var step pair
		switch {
		case len(b) > 0 && isInsert(b[0]):
			step[1], b = b[0], b[1:]
		case len(a) > 0 && a[0].Kind == api.OpDelete:
			step[0], a = a[0], a[1:]
		case len(a) == 0:
			step, b = pair{retain(length(b[0])), b[0]}, b[1:]
		case len(b) == 0:
			step, a = pair{a[0], retain(length(a[0]))}, a[1:]
		default:
			n := min(length(a[0]), length(b[0]))
			step[0], a = parted(a, n)
			step[1], b = parted(b, n)
		}
		all = append(all, step)
	}
	return all
}

func sameList(a, b []api.Op) bool { return ops.Same(a, b) }

// The operations that are gone through.

// few are operations of lengths and attributes that go together in every way.
func few() []api.Op {
	return of(
		text("a"), text("\u00e9\u20ac\U0001f600\n"), text("ab", bold), text("\U0010ffff\x00c", num("bold", 1)), embed("a", api.Plain{}), embed("\u00e9b", words("xy"), bold),
		retain(1), retain(3), retain(2, bold), retain(3, bold, num("c", 1)), retain(2, null("bold")), del(1), del(3),
	)
}

// long are operations whose lengths sum to about the bound.
func long() []api.Op {
	return of(retain(most-3, bold), retain(most/2), retain(1, null("b")), del(most), del(most-5), del(1), text("a"), text("abc", bold), embed("x", words("y")))
}

// eachList goes over all lists of at most so many of the operations.
func eachList(all []api.Op, longest int, visit func(list []api.Op)) {
	var grow func(list []api.Op)
	grow = func(list []api.Op) {
		visit(list)
		if len(list) == longest {
			return
		}
		for _, op := range all {
			grow(append(slices.Clip(list), op))
		}
	}
	grow(nil)
}

// someList is a list of up to so many of the operations, by chance.
func someList(chance *rand.Rand, all []api.Op, longest int) []api.Op {
	var list []api.Op
	for range chance.Intn(longest + 1) {
		list = append(list, all[chance.Intn(len(all))])
	}
	return list
}

// made is the delta of operations.
func made(t *testing.T, list ...api.Op) *build.Delta {
	t.Helper()
	d, n, err := build.Of(list)
	if err != nil {
		t.Fatalf("Of(%s) = %d, %v", short(list...), n, err)
	}
	return d
}

// deltas are those of all lists of at most so many of the operations, each delta once.
func deltas(all []api.Op, longest int) []*build.Delta {
	var list []*build.Delta
	eachList(all, longest, func(gathered []api.Op) {
		if d, _, err := build.Of(gathered); err == nil && sameList(d.Ops(), gathered) {
			list = append(list, d)
		}
	})
	return list
}

// comparePiece holds a piece against an operation, in every field; against one without a kind, it is nil.
func comparePiece(t *testing.T, piece api.Piece, op api.Op) {
	t.Helper()
	good := false
	switch piece := piece.(type) {
	case nil:
		good = op.Kind == 0
	case api.Insert:
		good = op.Kind == api.OpText && piece.Text == op.Text && piece.Length == length(op) && slices.Equal(piece.Attrs, op.Attrs)
	case api.Embed:
		value, err := values.Of(op.Value)
		good = op.Kind == api.OpEmbed && piece.Kind == op.Text && piece.Value == value && err == nil && slices.Equal(piece.Attrs, op.Attrs)
	case api.Retain:
		good = op.Kind == api.OpRetain && piece.Count == op.Count && slices.Equal(piece.Attrs, op.Attrs)
	case api.Delete:
		good = op.Kind == api.OpDelete && piece.Count == op.Count
	}
	if !good {
		t.Fatalf("the piece is a %T, %.200v, not %s", piece, piece, short(op))
	}
}

// compareWalker holds all that a walker tells against what is left of its operations.
func compareWalker(t *testing.T, w *walk.Walker, left []api.Op) {
	t.Helper()
	kind, n := api.OpRetain, most
	if len(left) > 0 {
		kind, n = left[0].Kind, length(left[0])
	}
	if w.Kind() != kind || w.Left() != n || w.Done() != (len(left) == 0) {
		t.Fatalf("Kind %d, Left %d, Done %v ahead of %s", w.Kind(), w.Left(), w.Done(), short(left...))
	}
	if rest := w.Rest(); rest == nil || !sameList(rest.Ops(), left) {
		t.Fatalf("the Rest isn't %s", short(left...))
	}
}

// compareNext takes a piece of at most n cells and holds it against the model, which answers what is left.
func compareNext(t *testing.T, w *walk.Walker, left []api.Op, n int) []api.Op {
	t.Helper()
	piece, err := w.Next(n)
	if n < 1 {
		if piece != nil || err != api.ErrRange {
			t.Fatalf("Next(%d) = %v, %v", n, piece, err)
		}
		return left
	}
	if err != nil {
		t.Fatalf("Next(%d): %v", n, err)
	}
	want, left := parted(left, n)
	comparePiece(t, piece, want)
	return left
}

// strides are ways to go through a delta: what is asked for, over and over.
func strides() [][]int {
	return [][]int{{1}, {2}, {3}, {1, 2}, {2, 1, 1}, {math.MaxInt}, {most}, {most - 1}, {most + 1}, {most / 2, 1}, {0, 1, -1, 2, math.MinInt, 3, -most}}
}

// compareWalk goes through a delta in a stride, to its end and behind it.
func compareWalk(t *testing.T, d *build.Delta, stride []int) {
	t.Helper()
	w, left := walk.New(d), d.Ops()
	compareWalker(t, w, left)
	for i, behind := 0, 0; behind < 4 && i < 100; i++ {
		if len(left) == 0 {
			behind++
		}
		left = compareNext(t, w, left, stride[i%len(stride)])
		compareWalker(t, w, left)
	}
}

// P7.1: every call answers what is told.

func TestP7_1Example(t *testing.T) {
	w := walk.New(made(t, text("abc"), del(2)))
	for i, x := range []struct {
		kind, left, n int
		want          api.Op
		rest          []api.Op
	}{
		{api.OpText, 3, 2, text("ab"), of(text("c"), del(2))}, {api.OpText, 1, 9, text("c"), of(del(2))},
		{api.OpDelete, 2, 1, del(1), of(del(1))}, {api.OpDelete, 1, 5, del(1), nil}, {api.OpRetain, 1 << 40, 7, retain(7), nil}, {api.OpRetain, 1 << 40, math.MaxInt, retain(1 << 40), nil},
	} {
		if w.Kind() != x.kind || w.Left() != x.left {
			t.Errorf("row %d: Kind %d, Left %d", i, w.Kind(), w.Left())
		}
		piece, err := w.Next(x.n)
		if err != nil {
			t.Errorf("row %d: %v", i, err)
		}
		comparePiece(t, piece, x.want)
		if w.Done() != (len(x.rest) == 0) || !sameList(w.Rest().Ops(), x.rest) {
			t.Errorf("row %d: Done %v, Rest %s", i, w.Done(), short(w.Rest().Ops()...))
		}
	}
	if piece, err := w.Next(0); piece != nil || err != api.ErrRange {
		t.Errorf("Next(0) = %v, %v", piece, err)
	}
}

func TestP7_1EachStride(t *testing.T) {
	for _, d := range deltas(few(), 3) {
		for _, stride := range strides() {
			compareWalk(t, d, stride)
		}
	}
}

func TestP7_1AboutTheBound(t *testing.T) {
	for _, d := range deltas(long(), 4) {
		for _, stride := range [][]int{{1}, {most}, {most - 4, 1}, {most / 2}, {1 << 32, 1, 1 << 31}, {math.MaxInt}} {
			compareWalk(t, d, stride)
		}
	}
}

func TestP7_1Empty(t *testing.T) {
	for _, d := range []*build.Delta{build.Empty(), made(t, retain(7)), made(t, text("a"))} {
		w := walk.New(d)
		if !w.Done() {
			compareNext(t, w, d.Ops(), 1)
		}
		for _, n := range []int{1, 2, most - 1, most, most + 1, math.MaxInt, 0, -1, math.MinInt, 1} {
			compareWalker(t, w, nil)
			compareNext(t, w, nil, n)
		}
		compareWalker(t, w, nil)
	}
}

// In every place a refused call changes nothing.
func TestP7_1Refused(t *testing.T) {
	d := made(t, few()...)
	for _, n := range []int{0, -1, -2, -most, math.MinInt, math.MinInt32, -1 << 32} {
		w, left := walk.New(d), d.Ops()
		for len(left) > 0 {
			compareNext(t, w, left, n)
			compareWalker(t, w, left)
			left = compareNext(t, w, left, 1)
		}
		compareNext(t, w, left, n)
		compareWalker(t, w, left)
	}
}

// What one walker goes through is nothing to the others, to its delta, nor to a Rest that it answered.
func TestP7_1SeveralWalkers(t *testing.T) {
	chance := rand.New(rand.NewSource(71))
	for range 300 {
		d := made(t, someList(chance, few(), 12)...)
		whole := d.Ops()
		walkers := []*walk.Walker{walk.New(d), walk.New(d)}
		left := [][]api.Op{whole, whole}
		for range 60 {
			i := chance.Intn(len(walkers))
			switch chance.Intn(8) {
			case 0:
				walkers, left = append(walkers, walk.New(d)), append(left, whole)
			case 1:
				walkers, left = append(walkers, walk.New(walkers[i].Rest())), append(left, left[i])
			default:
				left[i] = compareNext(t, walkers[i], left[i], chance.Intn(6))
			}
			for j, w := range walkers {
				compareWalker(t, w, left[j])
			}
		}
		if !sameList(d.Ops(), whole) {
			t.Fatalf("the delta is %s now, not %s", short(d.Ops()...), short(whole...))
		}
	}
}

// P7.2: the pieces of a delta make it again.

// gathered is the delta of pieces that are put together.
func gathered(t *testing.T, pieces []api.Piece) *build.Delta {
	t.Helper()
	b := build.New()
	for _, piece := range pieces {
		if err := b.Push(piece.Op()); err != nil {
			t.Fatalf("%s isn't gathered: %v", short(piece.Op()), err)
		}
	}
	return b.Delta()
}

// compareParts goes through a delta in lengths that are told one by one, and holds what is promised of its pieces and of each Rest.
func compareParts(t *testing.T, d *build.Delta, stride func() int) {
	t.Helper()
	w := walk.New(d)
	var pieces []api.Piece
	var rests []*build.Delta
	sum, whole := 0, lengths(d.Ops())
	for !w.Done() && sum < whole {
		rests = append(rests, w.Rest())
		n, left := stride(), w.Left()
		piece, err := w.Next(n)
		if err != nil || piece.Len() != min(n, left) {
			t.Fatalf("Next(%d) = %v, %v where %d are left", n, piece, err, left)
		}
		pieces = append(pieces, piece)
		sum += piece.Len()
	}
	if !w.Done() || sum != whole {
		t.Fatalf("the pieces of %s have %d cells, Done %v", short(d.Ops()...), sum, w.Done())
	}
	if again := gathered(t, pieces); !build.Same(again, d) {
		t.Fatalf("the pieces of %s make %s", short(d.Ops()...), short(again.Ops()...))
	}
	for i, rest := range append(rests, w.Rest()) {
		if !build.Same(rest, gathered(t, pieces[i:])) || !ops.Canonical(rest.Ops()) {
			t.Fatalf("the Rest of %s ahead of piece %d is %s", short(d.Ops()...), i, short(rest.Ops()...))
		}
	}
}

func TestP7_2Parts(t *testing.T) {
	chance := rand.New(rand.NewSource(72))
	for _, d := range deltas(few(), 3) {
		compareParts(t, d, func() int { return 1 })
		compareParts(t, d, func() int { return math.MaxInt })
		compareParts(t, d, func() int { return 1 + chance.Intn(3) })
	}
	for range 300 {
		compareParts(t, made(t, someList(chance, few(), 30)...), func() int { return 1 + chance.Intn(4) })
	}
}

func TestP7_2PartsAboutTheBound(t *testing.T) {
	chance := rand.New(rand.NewSource(73))
	for _, d := range deltas(long(), 4) {
		for range 3 {
			compareParts(t, d, func() int { return most/4 + chance.Intn(most) })
		}
	}
}

// P7.3: steps.

// compareSteps holds Steps against the model.
func compareSteps(t *testing.T, a, b *build.Delta) {
	t.Helper()
	want := steps(a.Ops(), b.Ops())
	n := 0
	for first, second := range walk.Steps(a, b) {
		if n == len(want) {
			t.Fatalf("more than %d steps of %s and %s", n, short(a.Ops()...), short(b.Ops()...))
		}
		comparePiece(t, first, want[n][0])
		comparePiece(t, second, want[n][1])
		n++
	}
	if n != len(want) {
		t.Fatalf("%d steps, not %d, of %s and %s", n, len(want), short(a.Ops()...), short(b.Ops()...))
	}
}

// compareStep holds what is promised of a step by itself.
func compareStep(t *testing.T, first, second api.Piece) {
	t.Helper()
	if first == nil && second == nil {
		t.Fatal("a step of nothing")
	}
	if first == nil {
		if !isInsert(second.Op()) {
			t.Fatalf("%s alone", short(second.Op()))
		}
		return
	}
	if second == nil {
		if first.Op().Kind != api.OpDelete {
			t.Fatalf("%s alone", short(first.Op()))
		}
		return
	}
	if first.Op().Kind == api.OpDelete || isInsert(second.Op()) || first.Len() != second.Len() {
		t.Fatalf("%s and %s in one step", short(first.Op()), short(second.Op()))
	}
}

// trimmed are a delta's operations, put together of a side's pieces as plain data: no bound is asked of what is added behind it.
func trimmed(pieces []api.Piece) []api.Op {
	var all []api.Op
	for _, piece := range pieces {
		op, last := piece.Op(), len(all)-1
		if last >= 0 && all[last].Kind == op.Kind && op.Kind != api.OpEmbed && slices.Equal(all[last].Attrs, op.Attrs) {
			all[last].Text += op.Text
			all[last].Count += op.Count
			continue
		}
		all = append(all, op)
	}
	for len(all) > 0 && isPlain(all[len(all)-1]) {
		all = all[:len(all)-1]
	}
	return all
}

// compareSides holds what is promised of the steps of two deltas together.
func compareSides(t *testing.T, a, b *build.Delta) {
	t.Helper()
	var sides [2][]api.Piece
	for first, second := range walk.Steps(a, b) {
		compareStep(t, first, second)
		for i, piece := range []api.Piece{first, second} {
			if piece != nil {
				sides[i] = append(sides[i], piece)
			}
		}
	}
	for i, d := range []*build.Delta{a, b} {
		if !sameList(trimmed(sides[i]), d.Ops()) {
			t.Fatalf("side %d of %s and %s is %s", i, short(a.Ops()...), short(b.Ops()...), short(trimmed(sides[i])...))
		}
	}
}

func TestP7_3Example(t *testing.T) {
	want := []pair{{text("a"), retain(1)}, {{}, text("X")}, {text("b"), del(1)}, {del(1), {}}, {retain(1), del(1)}}
	a, b := made(t, text("ab"), del(1)), made(t, retain(1), text("X"), del(2))
	if !slices.EqualFunc(steps(a.Ops(), b.Ops()), want, func(x, y pair) bool { return sameList(x[:], y[:]) }) {
		t.Errorf("the model tells %v", steps(a.Ops(), b.Ops()))
	}
	compareSteps(t, a, b)
}

func TestP7_3Cases(t *testing.T) {
	k := num("k", 1)
	for i, x := range []struct {
		a, b []api.Op
		want []pair
	}{
		{nil, nil, nil},
		{of(text("ab", k)), nil, []pair{{text("ab", k), retain(2)}}},
		{of(retain(2, k)), nil, []pair{{retain(2, k), retain(2)}}},
		{of(embed("x", words("y"), k)), nil, []pair{{embed("x", words("y"), k), retain(1)}}},
		{of(del(2)), nil, []pair{{del(2), {}}}},
		{nil, of(text("ab", k)), []pair{{{}, text("ab", k)}}},
		{nil, of(embed("x", words("y"), k)), []pair{{{}, embed("x", words("y"), k)}}},
		{nil, of(retain(2, k)), []pair{{retain(2), retain(2, k)}}},
		{nil, of(del(2)), []pair{{retain(2), del(2)}}},
		// Where both may come alone, b's insert does ahead of a's delete.
		{of(del(2)), of(text("a"), del(1)), []pair{{{}, text("a")}, {del(2), {}}, {retain(1), del(1)}}},
		{of(text("a"), del(2)), of(embed("x", words("y")), del(1)), []pair{{{}, embed("x", words("y"))}, {text("a"), del(1)}, {del(2), {}}}},
		// A delete and an insert come whole, whatever is left on the other side; an embed is one cell.
		{of(del(most)), of(retain(1, k)), []pair{{del(most), {}}, {retain(1), retain(1, k)}}},
		{of(embed("x", words("y")), text("a")), of(del(1), retain(2, k)), []pair{{embed("x", words("y")), del(1)}, {text("a"), retain(1, k)}, {retain(1), retain(1, k)}}},
		{of(retain(1, k), text("\u00e9\u20acc")), of(retain(3), text("abc")), []pair{{retain(1, k), retain(1)}, {text("\u00e9\u20ac"), retain(2)}, {{}, text("abc")}, {text("c"), retain(1)}}},
		{of(text("ab")), of(retain(most, k)), []pair{{text("ab"), retain(2, k)}, {retain(most - 2), retain(most-2, k)}}},
		{of(retain(most, k)), of(del(most)), []pair{{retain(most, k), del(most)}}},
	} {
		a, b := made(t, x.a...), made(t, x.b...)
		if got := steps(a.Ops(), b.Ops()); !slices.EqualFunc(got, x.want, func(x, y pair) bool { return sameList(x[:], y[:]) }) {
			t.Errorf("row %d: the model tells %v", i, got)
		}
		compareSteps(t, a, b)
		compareSides(t, a, b)
	}
}

func TestP7_3EachPair(t *testing.T) {
	all := deltas(few(), 2)
	for _, a := range all {
		for _, b := range all {
			compareSteps(t, a, b)
			compareSides(t, a, b)
		}
	}
}

func TestP7_3PairsAboutTheBound(t *testing.T) {
	all := deltas(long(), 3)
	chance := rand.New(rand.NewSource(74))
	for _, a := range all {
		for range 40 {
			b := all[chance.Intn(len(all))]
			compareSteps(t, a, b)
			compareSides(t, a, b)
		}
	}
}

func TestP7_3PairsByChance(t *testing.T) {
	chance := rand.New(rand.NewSource(75))
	for range 2000 {
		a, b := made(t, someList(chance, few(), 30)...), made(t, someList(chance, few(), 30)...)
		compareSteps(t, a, b)
		compareSides(t, a, b)
		compareSteps(t, a, a)
		compareSides(t, a, a)
	}
}

// P7.4: Each is the pieces that layer 6 answers.

func compareEach(t *testing.T, d *build.Delta) {
	t.Helper()
	list, pieces := d.Ops(), d.Pieces()
	n := 0
	for piece := range walk.Each(d) {
		if n == len(list) {
			t.Fatalf("more than %d pieces of %s", n, short(list...))
		}
		comparePiece(t, piece, list[n])
		comparePiece(t, piece, pieces[n].Op())
		n++
	}
	if n != len(list) {
		t.Fatalf("%d pieces of %s", n, short(list...))
	}
}

func TestP7_4Each(t *testing.T) {
	for _, d := range slices.Concat(deltas(few(), 3), deltas(long(), 4)) {
		compareEach(t, d)
	}
	chance := rand.New(rand.NewSource(76))
	for range 300 {
		compareEach(t, made(t, someList(chance, few(), 60)...))
	}
	compareEach(t, build.Empty())
	compareEach(t, made(t, retain(7)))
}

// The rules (P1): iterators may be stopped and gone over again.

func TestEachAgain(t *testing.T) {
	d := made(t, few()...)
	list, each := d.Ops(), walk.Each(d)
	for stop := 1; stop <= len(list); stop++ {
		n := 0
		for piece := range each {
			comparePiece(t, piece, list[n])
			// Another one within, which goes its own way.
			m := 0
			for other := range each {
				comparePiece(t, other, list[m])
				if m++; m == n {
					break
				}
			}
			if n++; n == stop {
				break
			}
		}
		if n != stop {
			t.Fatalf("%d pieces ahead of stop %d", n, stop)
		}
	}
}

func TestStepsAgain(t *testing.T) {
	a, b := made(t, few()...), made(t, of(retain(2), text("X"), del(3), retain(4, bold), embed("x", words("y")))...)
	want, both := steps(a.Ops(), b.Ops()), walk.Steps(a, b)
	for stop := 1; stop <= len(want); stop++ {
		n := 0
		for first, second := range both {
			comparePiece(t, first, want[n][0])
			comparePiece(t, second, want[n][1])
			m := 0
			for first, second := range both {
				comparePiece(t, first, want[m][0])
				comparePiece(t, second, want[m][1])
				if m++; m == n {
					break
				}
			}
			if n++; n == stop {
				break
			}
		}
		if n != stop {
			t.Fatalf("%d steps ahead of stop %d", n, stop)
		}
	}
}

// The rules (P1): the lists of an answer are its own.

// lists are the lists of attributes that pieces hold themselves.
func lists(pieces []api.Piece) [][]api.Attr {
	var all [][]api.Attr
	for _, piece := range pieces {
		switch piece := piece.(type) {
		case api.Insert:
			all = append(all, piece.Attrs)
		case api.Embed:
			all = append(all, piece.Attrs)
		case api.Retain:
			all = append(all, piece.Attrs)
		}
	}
	return all
}

// marked are those of the pieces that have attributes: what is added behind a delta has none.
func marked(pieces []api.Piece) []api.Piece {
	var all []api.Piece
	for _, piece := range pieces {
		if bearer, bears := piece.(api.Bearer); bears && len(bearer.Attributes()) > 0 {
			all = append(all, piece)
		}
	}
	return all
}

// pack is a delta all of whose lists are the set.
func pack(t *testing.T, set []api.Attr) *build.Delta {
	t.Helper()
	return made(t, text("abcd", set...), embed("x", words("y"), set...), retain(5, set...), text("e", set...), del(2))
}

// spoiled writes into a list, its spare room included.
func spoiled(list []api.Attr) { clear(list[:cap(list)]) }

// compareLists writes into each of the lists that a call answers in turn, and asks whether it is seen elsewhere.
func compareLists(t *testing.T, answers func(d *build.Delta) []api.Piece) {
	t.Helper()
	set := []api.Attr{num("a", 1), num("b", 2)}
	for i := range lists(answers(pack(t, set))) {
		d := pack(t, set)
		all, other := lists(answers(d)), lists(answers(d))
		spoiled(all[i])
		later := lists(answers(d))
		for j := range all {
			if j != i && !slices.Equal(all[j], set) || !slices.Equal(other[j], set) || !slices.Equal(later[j], set) {
				t.Fatalf("a write into list %d is seen in list %d", i, j)
			}
		}
		if !build.Same(d, pack(t, set)) {
			t.Fatalf("a write into list %d is seen in the delta", i)
		}
	}
}

func TestListsAreNewMemory(t *testing.T) {
	for _, stride := range []int{1, 2, 3, most} {
		compareLists(t, func(d *build.Delta) []api.Piece {
			w := walk.New(d)
			var all []api.Piece
			for range lengths(d.Ops()) {
				piece, _ := w.Next(stride)
				all = append(all, piece)
			}
			return marked(all)
		})
	}
	compareLists(t, func(d *build.Delta) []api.Piece { return slices.Collect(walk.Each(d)) })
	compareLists(t, func(d *build.Delta) []api.Piece {
		each := walk.Each(d)
		return append(slices.Collect(each), slices.Collect(each)...)
	})
	compareLists(t, func(d *build.Delta) []api.Piece {
		var all []api.Piece
		for first, second := range walk.Steps(d, d) {
			if all = append(all, first, second); len(all) > 100 {
				break
			}
		}
		return marked(all)
	})
	compareLists(t, func(d *build.Delta) []api.Piece {
		w := walk.New(d)
		w.Next(2)
		one, other := w.Rest(), w.Rest()
		w.Next(1)
		return slices.Concat(one.Pieces(), other.Pieces(), w.Rest().Pieces())
	})
}

// What is written into an answered piece is nothing to the walker that goes on.
func TestPiecesAreNotKept(t *testing.T) {
	set := []api.Attr{num("a", 1), num("b", 2)}
	for _, stride := range strides() {
		w, left := walk.New(pack(t, set)), pack(t, set).Ops()
		for i := 0; len(left) > 0; i++ {
			rest := w.Rest()
			n := stride[i%len(stride)]
			piece, _ := w.Next(n)
			if n > 0 {
				_, left = parted(left, n)
			}
			for _, list := range append(lists([]api.Piece{piece}), lists(rest.Pieces())...) {
				spoiled(list)
			}
			for _, op := range rest.Ops() {
				spoiled(op.Attrs)
			}
			compareWalker(t, w, left)
		}
	}
}

// A text that is taken scalar by scalar takes memory, and time, by its length and not by the square of it.
func TestManyPieces(t *testing.T) {
	const parts = 1 << 20
	d := made(t, text(repeated("\u20ac", parts)))
	var ahead, behind runtime.MemStats
	runtime.ReadMemStats(&ahead)
	w := walk.New(d)
	for range parts {
		if piece, err := w.Next(1); err != nil || piece.Len() != 1 {
			t.Fatalf("Next(1) = %v, %v", piece, err)
		}
	}
	if !w.Done() {
		t.Error("the walker isn't done")
	}
	runtime.ReadMemStats(&behind)
	if used := (behind.TotalAlloc - ahead.TotalAlloc) / parts; used > 1<<12 {
		t.Errorf("a piece takes %d bytes", used)
	}
}

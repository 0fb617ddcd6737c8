package build_test

import (
	"fmt"
	"math"
	"math/big"
	"math/rand"
	"runtime"
	"slices"
	"strings"
	"testing"
	"unicode/utf8"
	"unsafe"

	"vellum/api"
	"vellum/attrs"
	"vellum/build"
	"vellum/content"
	"vellum/ops"
	"vellum/values"
)

const most = api.MaxLength

func flag(n int64) api.Plain   { return api.Plain{Kind: api.KindFlag, Number: n} }
func number(n int64) api.Plain { return api.Plain{Kind: api.KindNumber, Number: n} }
func words(s string) api.Plain { return api.Plain{Kind: api.KindText, Text: s} }

func num(key string, n int64) api.Attr  { return api.Attr{Key: key, Value: number(n)} }
func null(key string) api.Attr          { return api.Attr{Key: key} }
func pairs(list ...api.Attr) []api.Attr { return list }
func repeated(s string, n int) string   { return strings.Repeat(s, n) }
func of(list ...api.Op) []api.Op        { return list }

var bold = api.Attr{Key: "bold", Value: flag(1)}

func text(s string, set ...api.Attr) api.Op { return api.Op{Kind: api.OpText, Text: s, Attrs: set} }
func retain(n int, patch ...api.Attr) api.Op {
	return api.Op{Kind: api.OpRetain, Count: n, Attrs: patch}
}
func del(n int) api.Op { return api.Op{Kind: api.OpDelete, Count: n} }

func embed(kind string, value api.Plain, set ...api.Attr) api.Op {
	return api.Op{Kind: api.OpEmbed, Text: kind, Value: value, Attrs: set}
}

// short tells of operations without the whole of long texts.
func short(list ...api.Op) string {
	var all strings.Builder
	for _, op := range list {
		fmt.Fprintf(&all, "{%d %.30q(%d) {%d %d %.20q(%d)} %d %.200v}", op.Kind, op.Text, len(op.Text), op.Value.Kind, op.Value.Number, op.Value.Text, len(op.Value.Text), op.Count, op.Attrs)
	}
	return all.String()
}

// The model: operations as plain data, rewritten step by step.

func isInsert(op api.Op) bool { return op.Kind == api.OpText || op.Kind == api.OpEmbed }

func isPlain(op api.Op) bool { return op.Kind == api.OpRetain && len(op.Attrs) == 0 }

// length is how many cells a well formed operation makes, keeps or takes away.
func length(op api.Op) int {
	switch op.Kind {
	case api.OpText:
		return utf8.RuneCountInString(op.Text)
	case api.OpEmbed:
		return 1
	}
	return op.Count
}

// lengths are the base length and the result length of well formed operations, as whole numbers without a bound.
func lengths(list []api.Op) (base, result *big.Int) {
	base, result = new(big.Int), new(big.Int)
	for _, op := range list {
		n := big.NewInt(int64(length(op)))
		if !isInsert(op) {
			base.Add(base, n)
		}
		if op.Kind != api.OpDelete {
			result.Add(result, n)
		}
	}
	return base, result
}

// isLong tells whether well formed operations have a length above the bound.
func isLong(list []api.Op) bool {
	base, result := lengths(list)
	bound := big.NewInt(1 << 40)
	return base.Cmp(bound) > 0 || result.Cmp(bound) > 0
}

// fault is the error that op has behind what was gathered; nil, if it is gathered.
func fault(gathered []api.Op, op api.Op) error {
	if err := ops.Check(op); err != nil {
		return err
	}
	if isLong(append(slices.Clip(gathered), op)) {
		return api.ErrLong
	}
	return nil
}

// firstFault is the number of the first operation that isn't gathered, and its error.
func firstFault(list []api.Op) (int, error) {
	for i, op := range list {
		if err := fault(list[:i], op); err != nil {
			return i, err
		}
	}
	return 0, nil
}

func samePlain(a, b api.Plain) bool {
	return a.Kind == b.Kind && a.Number == b.Number && a.Text == b.Text
}

func samePairs(a, b []api.Attr) bool {
	return slices.EqualFunc(a, b, func(a, b api.Attr) bool { return a.Key == b.Key && samePlain(a.Value, b.Value) })
}

func sameOp(a, b api.Op) bool {
	return a.Kind == b.Kind && a.Text == b.Text && samePlain(a.Value, b.Value) && a.Count == b.Count && samePairs(a.Attrs, b.Attrs)
}

func sameList(a, b []api.Op) bool { return slices.EqualFunc(a, b, sameOp) }

// joined are two neighbours as one, if they may be that.
func joined(a, b api.Op) (api.Op, bool) {
	if a.Kind != b.Kind || a.Kind == api.OpEmbed || !samePairs(a.Attrs, b.Attrs) {
		return api.Op{}, false
	}
	a.Text += b.Text
	a.Count += b.Count
	return a, true
}

// rewritten are the operations of the delta of gathered ones, made canonical by single steps: an insert goes ahead of the delete that it stands behind, neighbours are joined, a plain retain at the end goes.
func rewritten(list []api.Op) []api.Op {
	list = slices.Clone(list)
	for at := 1; at < len(list); {
		a, b := list[at-1], list[at]
		whole, join := joined(a, b)
		switch {
		case a.Kind == api.OpDelete && isInsert(b):
			list[at-1], list[at] = b, a
		case join:
			list = slices.Replace(list, at-1, at+1, whole)
		default:
			at++
			continue
		}
		at = max(at-1, 1)
	}
	for len(list) > 0 && isPlain(list[len(list)-1]) {
		list = list[:len(list)-1]
	}
	return list
}

// edited is a document behind the edit of operations, told cell by cell as the section Deltas does.
func edited(t *testing.T, list []api.Op, doc []api.Cell) []api.Cell {
	t.Helper()
	var all []api.Cell
	for _, op := range list {
		switch op.Kind {
		case api.OpDelete:
			doc = doc[op.Count:]
		case api.OpRetain:
			for _, cell := range doc[:op.Count] {
				set, err := attrs.Apply(cell.Attrs, op.Attrs)
				if err != nil {
					t.Fatal(err)
				}
				cell.Attrs = set
				all = append(all, cell)
			}
			doc = doc[op.Count:]
		default:
			made, err := content.Cells(op)
			if err != nil {
				t.Fatal(err)
			}
			all = append(all, made...)
		}
	}
	return append(all, doc...)
}

// document are n cells, no two with one content, each with the set.
func document(n int, set ...api.Attr) []api.Cell {
	var all []api.Cell
	for i := range n {
		all = append(all, api.Cell{Rune: rune(0x1000 + i), Attrs: set})
	}
	return all
}

func sameCells(a, b []api.Cell) bool {
	return slices.EqualFunc(a, b, func(a, b api.Cell) bool {
		return a.Rune == b.Rune && a.Kind == b.Kind && samePlain(a.Value, b.Value) && samePairs(a.Attrs, b.Attrs)
	})
}

// The operations that are gone through: good ones, and wrong ones in every way.

var (
	texts  = []string{"", "a", "a\u00e9\u20ac\U0001f600\n", "\xff", repeated("k", 64), repeated("k", 65)}
	plains = []api.Plain{{}, flag(0), flag(1), number(-5), words(""), flag(2), words("\xff"), {Kind: 9}, {Number: 1}, {Text: "x"}}
	counts = []int{0, 1, 2, most - 1, most, most + 1, 1<<32 + 1, -1, -most, math.MinInt, math.MaxInt}
	lists  = [][]api.Attr{
		nil, {}, pairs(num("b", 1)), pairs(num("b", 1), num("c", 2)), pairs(null("b")), pairs(null("b"), bold, null("c")),
		pairs(num("c", 1), num("b", 1)), pairs(num("b", 1), num("b", 1)), pairs(num("", 1)), pairs(num("\xff", 1)),
		pairs(num(repeated("k", 64), 1)), pairs(num(repeated("k", 65), 1)), pairs(api.Attr{Key: "b", Value: flag(2)}), pairs(api.Attr{Key: "b", Value: words("\xff")}),
	}
)

// wrongOps are one operation for each kind of fault.
func wrongOps() []api.Op {
	return of(
		api.Op{}, api.Op{Kind: 5, Count: 1}, api.Op{Kind: -1, Count: 1}, del(0), del(-1), del(most+1), retain(0), retain(most+1), text(""), text("\xff"), embed("", flag(1)),
		embed(repeated("k", 65), flag(1)), embed("x", flag(2)), embed("x", words("\xff")), text("a", null("b")), embed("x", flag(1), null("b")),
		text("a", num("b", 1), num("a", 1)), retain(1, num("b", 1), num("a", 1)), retain(1, num("", 1)), retain(1, num("\xff", 1)),
		embed("x", words(repeated("a", api.MaxText+1))), retain(math.MaxInt), del(math.MinInt),
		api.Op{Kind: api.OpDelete, Count: 1, Attrs: pairs(bold)}, api.Op{Kind: api.OpDelete, Count: 1, Text: "x"}, api.Op{Kind: api.OpDelete, Count: 1, Value: flag(0)},
		api.Op{Kind: api.OpRetain, Count: 1, Text: "x"}, api.Op{Kind: api.OpRetain, Count: 1, Value: flag(0)}, api.Op{Kind: api.OpText, Text: "a", Count: 1},
		api.Op{Kind: api.OpText, Text: "a", Value: flag(0)}, api.Op{Kind: api.OpEmbed, Text: "a", Count: 1},
	)
}

// few are operations that may and may not be joined in every way.
func few() []api.Op {
	return of(
		text("a"), text("\u00e9"), text("a", bold), text("b\u00e9", bold), text("a", num("bold", 1)), embed("a", api.Plain{}), embed("b", flag(1), bold),
		retain(1), retain(2), retain(1, bold), retain(2, bold), retain(1, null("bold")), retain(2, num("bold", 1)), del(1), del(2),
	)
}

// long are operations whose lengths sum to about the bound.
func long() []api.Op {
	return of(retain(most), retain(most-1, bold), retain(most-1), retain(1, null("b")), del(most), del(most-2), del(1), text("a"), text("ab", bold), embed("x", flag(1)))
}

// eachList goes over all lists of at most so many of the operations.
func eachList(all []api.Op, longest int, visit func(list []api.Op)) {
	var grow func(list []api.Op)
	grow = func(list []api.Op) {
		visit(list)
		if len(list) == longest {
			return
		}
		for _, op := range all {
			grow(append(slices.Clip(list), op))
		}
	}
	grow(nil)
}

// someLists are lists of up to so many of the operations, by chance, the same ones each time.
func someLists(seed int64, all []api.Op, times, longest int, visit func(list []api.Op)) {
	chance := rand.New(rand.NewSource(seed))
	for range times {
		var list []api.Op
		for range chance.Intn(longest + 1) {
			list = append(list, all[chance.Intn(len(all))])
		}
		visit(list)
	}
}

// made is the delta of operations that are gathered, one and all.
func made(t *testing.T, list []api.Op) *build.Delta {
	t.Helper()
	d, n, err := build.Of(list)
	if d == nil || n != 0 || err != nil {
		t.Fatalf("Of(%s) = %v, %d, %v", short(list...), d, n, err)
	}
	return d
}

// compareDelta holds all that a delta tells against its operations.
func compareDelta(t *testing.T, d *build.Delta, want []api.Op) {
	t.Helper()
	if d == nil {
		t.Fatalf("no delta where %s is asked", short(want...))
	}
	if list := d.Ops(); !sameList(list, want) || d.Count() != len(want) {
		t.Fatalf("the delta has %d operations, %s, not %s", d.Count(), short(list...), short(want...))
	}
	comparePieces(t, d.Pieces(), want)
}

// comparePieces holds pieces against operations, in every field.
func comparePieces(t *testing.T, pieces []api.Piece, want []api.Op) {
	t.Helper()
	if len(pieces) != len(want) {
		t.Fatalf("%d pieces of %s", len(pieces), short(want...))
	}
	for i, piece := range pieces {
		op, good := want[i], false
		switch piece := piece.(type) {
		case api.Insert:
			good = op.Kind == api.OpText && piece.Text == op.Text && piece.Length == length(op) && samePairs(piece.Attrs, op.Attrs)
		case api.Embed:
			value, err := values.Of(op.Value)
			good = op.Kind == api.OpEmbed && piece.Kind == op.Text && piece.Value == value && err == nil && samePairs(piece.Attrs, op.Attrs)
		case api.Retain:
			good = op.Kind == api.OpRetain && piece.Count == op.Count && samePairs(piece.Attrs, op.Attrs)
		case api.Delete:
			good = op.Kind == api.OpDelete && piece.Count == op.Count
		}
		if !good {
			t.Fatalf("piece %d of %s is a %T: %.200v", i, short(want...), piece, piece)
		}
	}
}

// compareOf holds Of against the model.
func compareOf(t *testing.T, list []api.Op) {
	t.Helper()
	at, want := firstFault(list)
	d, n, err := build.Of(list)
	if n != at || err != want || (d == nil) != (want != nil) {
		t.Fatalf("Of(%s) = %v, %d, %v, not %d, %v", short(list...), d, n, err, at, want)
	}
	if want == nil {
		compareDelta(t, d, rewritten(list))
	}
}

// P6.1: every call answers what is told.

func TestP6_1Examples(t *testing.T) {
	k := num("k", 1)
	for i, x := range []struct{ list, want []api.Op }{
		{of(del(1), text("a"), del(2), text("b"), retain(3)), of(text("ab"), del(3))},
		{of(retain(1), retain(2), text("a"), retain(1, k), retain(1, k)), of(retain(3), text("a"), retain(2, k))},
		{nil, nil}, {of(), nil}, {of(retain(5)), nil}, {of(retain(5), retain(1)), nil}, {of(retain(most)), nil},
		{of(text("a"), text("b", k)), of(text("a"), text("b", k))},
		{of(embed("x", flag(1)), embed("x", flag(1))), of(embed("x", flag(1)), embed("x", flag(1)))},
		{of(embed("x", flag(1)), text("a"), embed("x", flag(1)), text("b")), of(embed("x", flag(1)), text("a"), embed("x", flag(1)), text("b"))},
		{of(del(most), text("a")), of(text("a"), del(most))},
		{of(del(1), text("a"), del(2), embed("x", flag(1)), del(3), text("b")), of(text("a"), embed("x", flag(1)), text("b"), del(6))},
		{of(text("a"), del(1), text("b", k), del(1), text("c")), of(text("a"), text("b", k), text("c"), del(2))},
		{of(retain(1, k), retain(7), retain(1)), of(retain(1, k))}, {of(retain(1, null("k"))), of(retain(1, null("k")))},
		{of(retain(1), del(1), retain(1), del(1), retain(1)), of(retain(1), del(1), retain(1), del(1))},
		{of(del(1), retain(1), text("a")), of(del(1), retain(1), text("a"))},
		{of(retain(1, k), retain(1, null("k")), retain(1, num("k", 2))), of(retain(1, k), retain(1, null("k")), retain(1, num("k", 2)))},
		{of(text("a"), retain(1), text("a")), of(text("a"), retain(1), text("a"))},
		{of(text("a\u00e9"), text("\u20ac", pairs()...)), of(text("a\u00e9\u20ac"))},
		{of(text("a"), retain(most-1)), of(text("a"))}, {of(del(1), text("a"), retain(most-1)), of(text("a"), del(1))},
	} {
		if !sameList(rewritten(x.list), x.want) {
			t.Errorf("row %d: the model tells %s", i, short(rewritten(x.list)...))
		}
		compareOf(t, x.list)
	}
}

func TestP6_1ExamplesOfRefusals(t *testing.T) {
	for i, x := range []struct {
		list []api.Op
		at   int
		want error
	}{
		{of(retain(1), del(0)), 1, api.ErrOp}, {of(retain(1<<40), retain(1)), 1, api.ErrLong}, {of(retain(1<<40), del(1)), 1, api.ErrLong},
		{of(retain(1<<40), text("a")), 1, api.ErrLong}, {of(retain(1<<40), embed("x", flag(1))), 1, api.ErrLong}, {of(retain(1<<40 + 1)), 0, api.ErrLong},
		{of(del(1<<40), del(1)), 1, api.ErrLong}, {of(del(1<<40), retain(1)), 1, api.ErrLong}, {of(text("a"), retain(1<<40)), 1, api.ErrLong},
		{of(text("ab"), retain(1<<40-1)), 1, api.ErrLong}, {of(retain(1<<40-1), text("\u20ac"), text("b")), 2, api.ErrLong},
		{of(text("a"), text("\xff")), 1, api.ErrUtf8}, {of(text("a"), embed("", flag(1))), 1, api.ErrKey},
		// A list is gone through operation by operation: the first that is refused counts, by whatever error.
		{of(retain(1<<40), retain(1), del(0)), 1, api.ErrLong}, {of(retain(1<<40), del(0), retain(1)), 1, api.ErrOp}, {of(text(""), del(0), retain(1<<40+1)), 0, api.ErrOp},
		// Of one operation its own fault counts ahead of the sum.
		{of(retain(1<<40), text("\xff")), 1, api.ErrUtf8}, {of(retain(1<<40), retain(1, num("", 1))), 1, api.ErrKey}, {of(retain(1<<40), text("a", null("b"))), 1, api.ErrNull},
	} {
		if at, err := firstFault(x.list); at != x.at || err != x.want {
			t.Errorf("row %d: the model tells %d, %v", i, at, err)
		}
		compareOf(t, x.list)
	}
}

func TestP6_1ShortLists(t *testing.T) {
	eachList(few(), 4, func(list []api.Op) { compareOf(t, list) })
}

func TestP6_1ListsAboutTheBound(t *testing.T) {
	eachList(long(), 4, func(list []api.Op) { compareOf(t, list) })
}

func TestP6_1ListsByChance(t *testing.T) {
	someLists(61, few(), 3000, 40, func(list []api.Op) { compareOf(t, list) })
	someLists(62, slices.Concat(few(), few(), few(), long(), wrongOps()), 3000, 8, func(list []api.Op) { compareOf(t, list) })
}

func TestP6_1ListsWithWrongOperations(t *testing.T) {
	wrong, good := wrongOps(), few()
	for _, op := range wrong {
		compareOf(t, of(op))
		for _, other := range slices.Concat(wrong, good, long()) {
			compareOf(t, of(op, other))
			compareOf(t, of(other, op))
			compareOf(t, of(text("a", bold), other, del(1), op))
		}
		for i := range good {
			list := slices.Clone(good)
			list[i] = op
			compareOf(t, list)
		}
	}
}

// Each field by itself and several at a time: what layer 5 refuses is refused by its error.
func TestP6_1OddOperations(t *testing.T) {
	for _, kind := range []int{math.MinInt, -1, 0, api.OpText, api.OpEmbed, api.OpRetain, api.OpDelete, 5, 1<<32 + api.OpRetain} {
		for _, s := range texts {
			for _, value := range plains {
				for _, count := range counts {
					for _, list := range lists {
						compareOf(t, of(text("k"), api.Op{Kind: kind, Text: s, Value: value, Count: count, Attrs: list}))
					}
				}
			}
		}
	}
}

// compareTwins tells whether a call of one builder and the Push of an operation to another one do the same.
func compareTwins(t *testing.T, op api.Op, call func(b *build.Builder) error) {
	t.Helper()
	a, b := build.New(), build.New()
	for _, ahead := range of(retain(2), text("k"), del(1)) {
		if a.Push(ahead) != nil || b.Push(ahead) != nil {
			t.Fatalf("Push of %s is refused", short(ahead))
		}
	}
	want := fault(of(retain(2), text("k"), del(1)), op)
	if err := call(a); err != want {
		t.Fatalf("the call of %s: %v, not %v", short(op), err, want)
	}
	if err := b.Push(op); err != want {
		t.Fatalf("Push of %s: %v, not %v", short(op), err, want)
	}
	gathered := of(retain(2), text("k"), del(1))
	if want == nil {
		gathered = append(gathered, op)
	}
	compareDelta(t, a.Delta(), rewritten(gathered))
	compareDelta(t, b.Delta(), rewritten(gathered))
}

func TestP6_1CallsOfTheBuilder(t *testing.T) {
	for _, set := range lists {
		for _, s := range texts {
			compareTwins(t, text(s, set...), func(b *build.Builder) error { return b.Text(s, set) })
			for _, value := range plains {
				compareTwins(t, embed(s, value, set...), func(b *build.Builder) error { return b.Embed(s, value, set) })
			}
		}
		for _, n := range counts {
			compareTwins(t, retain(n, set...), func(b *build.Builder) error { return b.Retain(n, set) })
			compareTwins(t, del(n), func(b *build.Builder) error { return b.Delete(n) })
		}
	}
}

// A text may have more bytes than a value's.
func TestP6_1LongTexts(t *testing.T) {
	whole := repeated("\u00e9", api.MaxText)
	compareOf(t, of(text(whole), text(whole), del(1), text(whole, bold)))
	compareOf(t, of(embed("x", words(whole[:api.MaxText]), api.Attr{Key: "k", Value: words(whole[:api.MaxText])})))
	compareOf(t, of(embed("x", words(whole[:api.MaxText+2]))))
}

// call does to a builder what op says, by the call of its kind or by Push.
func call(b *build.Builder, op api.Op, byPush bool) error {
	switch {
	case byPush:
		return b.Push(op)
	case op.Kind == api.OpText && op.Count == 0 && op.Value == api.Plain{}:
		return b.Text(op.Text, op.Attrs)
	case op.Kind == api.OpEmbed && op.Count == 0:
		return b.Embed(op.Text, op.Value, op.Attrs)
	case op.Kind == api.OpRetain && op.Text == "" && op.Value == api.Plain{}:
		return b.Retain(op.Count, op.Attrs)
	case op.Kind == api.OpDelete && op.Text == "" && op.Value == api.Plain{} && len(op.Attrs) == 0:
		return b.Delete(op.Count)
	}
	return b.Push(op)
}

// taken is a delta that was answered, and what it is to have for ever.
type taken struct {
	delta *build.Delta
	want  []api.Op
}

// Several builders, in whatever order they are called: refused calls and the asking for deltas change nothing, and no delta changes once it is answered.
func TestP6_1AnyOrderOfCalls(t *testing.T) {
	all := slices.Concat(few(), few(), few(), few(), long(), wrongOps())
	for seed := range int64(300) {
		chance := rand.New(rand.NewSource(seed))
		var builders []*build.Builder
		var gathered [][]api.Op
		var answered []taken
		for range 60 {
			if len(builders) == 0 || len(builders) < 4 && chance.Intn(20) == 0 {
				builders, gathered = append(builders, build.New()), append(gathered, nil)
			}
			i, op := chance.Intn(len(builders)), all[chance.Intn(len(all))]
			if chance.Intn(3) == 0 {
				d, want := builders[i].Delta(), rewritten(gathered[i])
				compareDelta(t, d, want)
				answered = append(answered, taken{d, want})
				continue
			}
			want := fault(gathered[i], op)
			if err := call(builders[i], op, chance.Intn(2) == 0); err != want {
				t.Fatalf("%s behind %s: %v, not %v", short(op), short(gathered[i]...), err, want)
			}
			if want == nil {
				gathered[i] = append(gathered[i], op)
			}
		}
		for i, b := range builders {
			answered = append(answered, taken{b.Delta(), rewritten(gathered[i])})
		}
		for _, x := range answered {
			compareDelta(t, x.delta, x.want)
		}
	}
}

// The same with a delta asked for behind each call, and with none.
func TestP6_1DeltaChangesNothing(t *testing.T) {
	eachList(few(), 3, func(list []api.Op) {
		b := build.New()
		var answered []taken
		for i, op := range list {
			if err := b.Push(op); err != nil {
				t.Fatal(err)
			}
			d, again := b.Delta(), b.Delta()
			if !build.Same(d, again) {
				t.Fatalf("two deltas of %s", short(list[:i+1]...))
			}
			answered = append(answered, taken{d, rewritten(list[:i+1])})
		}
		for _, x := range answered {
			compareDelta(t, x.delta, x.want)
		}
		if !build.Same(b.Delta(), made(t, list)) {
			t.Fatalf("%s aren't gathered alike", short(list...))
		}
	})
}

// What is refused takes up nothing: what just fits behind it is gathered.
func TestP6_1RefusedTakesUpNothing(t *testing.T) {
	for _, refused := range slices.Concat(wrongOps(), of(retain(most), retain(2), del(2), text("abc"), text("abc", bold), embed("x", flag(2)))) {
		b := build.New()
		if err := b.Push(retain(most-2, bold)); err != nil {
			t.Fatal(err)
		}
		if err := b.Push(text("a")); err != nil {
			t.Fatal(err)
		}
		gathered := of(retain(most-2, bold), text("a"))
		if want := fault(gathered, refused); want != nil {
			if err := b.Push(refused); err != want {
				t.Fatalf("Push of %s: %v, not %v", short(refused), err, want)
			}
		}
		for _, op := range of(text("b"), del(2)) {
			if err := b.Push(op); err != nil {
				t.Fatalf("Push of %s behind the refused %s: %v", short(op), short(refused), err)
			}
		}
		for _, op := range of(text("c"), del(1), retain(1), embed("x", flag(1))) {
			if err := b.Push(op); err != api.ErrLong {
				t.Fatalf("Push of %s: %v", short(op), err)
			}
		}
		compareDelta(t, b.Delta(), of(retain(most-2, bold), text("ab"), del(2)))
	}
}

func TestP6_1Empty(t *testing.T) {
	for _, d := range []*build.Delta{build.Empty(), build.New().Delta(), made(t, nil), made(t, of(retain(7)))} {
		compareDelta(t, d, nil)
		if !build.Same(d, build.Empty()) || !build.Same(build.Empty(), d) {
			t.Error("two empty deltas aren't the same")
		}
	}
}

func TestP6_1Same(t *testing.T) {
	var all []taken
	eachList(few(), 2, func(list []api.Op) {
		d := made(t, list)
		all = append(all, taken{d, d.Ops()})
	})
	for _, a := range all {
		for _, b := range all {
			if is := build.Same(a.delta, b.delta); is != sameList(a.want, b.want) {
				t.Fatalf("Same of %s and %s is %v", short(a.want...), short(b.want...), is)
			}
		}
	}
}

// One field of one operation is another one.
func TestP6_1SameOfOneField(t *testing.T) {
	set := pairs(num("b", 1), api.Attr{Key: "c", Value: words("x")})
	list := of(text("ab", set...), embed("x", words("y"), set...), del(2), retain(2, set...), del(1))
	d := made(t, list)
	if !build.Same(d, d) || !build.Same(d, made(t, list)) {
		t.Error("a delta isn't the same as itself")
	}
	for i, change := range []func(list []api.Op){
		func(list []api.Op) { list[0].Text = "ac" },
		func(list []api.Op) { list[1].Text = "z" },
		func(list []api.Op) { list[1].Value = words("z") },
		func(list []api.Op) { list[1].Value = flag(1) },
		func(list []api.Op) { list[0] = embed("ab", api.Plain{}, set...) },
		func(list []api.Op) { list[2].Count++ },
		func(list []api.Op) { list[3].Count++ },
		func(list []api.Op) { list[4].Count++ },
		func(list []api.Op) { list[0].Attrs = set[:1] },
		func(list []api.Op) { list[1].Attrs = set[1:] },
		func(list []api.Op) { list[3].Attrs = nil },
		func(list []api.Op) { list[3].Attrs = pairs(num("b", 2), set[1]) },
		func(list []api.Op) { list[3].Attrs = pairs(num("a", 1), set[1]) },
		func(list []api.Op) { list[3].Attrs = pairs(null("b"), set[1]) },
		func(list []api.Op) { list[3] = text("abc") },
	} {
		other := slices.Clone(list)
		change(other)
		if e := made(t, other); build.Same(d, e) || build.Same(e, d) {
			t.Errorf("change %d: %s is the same", i, short(other...))
		}
	}
	for n := range list {
		if e := made(t, list[:n]); build.Same(d, e) || build.Same(e, d) {
			t.Errorf("the first %d operations are the same", n)
		}
	}
}

// P6.2: the delta is canonical, and its edit is that of the operations.

// compareEdit holds what is promised of the delta of gathered operations.
func compareEdit(t *testing.T, list []api.Op) {
	t.Helper()
	d := made(t, list)
	if !ops.Canonical(d.Ops()) {
		t.Fatalf("the delta of %s isn't canonical: %s", short(list...), short(d.Ops()...))
	}
	if again := made(t, d.Ops()); !build.Same(again, d) {
		t.Fatalf("%s isn't made again, but %s", short(d.Ops()...), short(again.Ops()...))
	}
	base, _ := lengths(list)
	for _, more := range []int{0, 2} {
		n := int(base.Int64()) + more
		for _, doc := range [][]api.Cell{document(n), document(n, num("a", 1), bold), document(n, num("bold", 2))} {
			if !sameCells(edited(t, list, doc), edited(t, d.Ops(), doc)) {
				t.Fatalf("%s and %s have unlike edits", short(list...), short(d.Ops()...))
			}
		}
	}
}

func TestP6_2Edits(t *testing.T) {
	eachList(few(), 3, func(list []api.Op) { compareEdit(t, list) })
	someLists(63, few(), 3000, 30, func(list []api.Op) { compareEdit(t, list) })
}

// The lengths of the delta are those of the operations, but for plain retains at the end; so they keep the bound.
func TestP6_2AboutTheBound(t *testing.T) {
	eachList(long(), 4, func(list []api.Op) {
		if _, err := firstFault(list); err != nil {
			return
		}
		d := made(t, list)
		if !ops.Canonical(d.Ops()) || !build.Same(made(t, d.Ops()), d) {
			t.Fatalf("the delta of %s is %s", short(list...), short(d.Ops()...))
		}
	})
}

// P6.3: a canonical delta in parts.

// cuts are all ways to cut an operation into two.
func cuts(op api.Op) [][]api.Op {
	var all [][]api.Op
	switch op.Kind {
	case api.OpText:
		for at := range op.Text {
			if at > 0 {
				all = append(all, of(text(op.Text[:at], op.Attrs...), text(op.Text[at:], op.Attrs...)))
			}
		}
	case api.OpRetain, api.OpDelete:
		for n := 1; n < min(op.Count, 4); n++ {
			head, rest := op, op
			head.Count, rest.Count = n, op.Count-n
			all = append(all, of(head, rest))
		}
	}
	return all
}

// crumbs are operations cut into pieces of one cell, or of a few, by chance.
func crumbs(list []api.Op, chance *rand.Rand) []api.Op {
	var all []api.Op
	for _, op := range list {
		ways := cuts(op)
		if len(ways) == 0 || chance.Intn(4) == 0 {
			all = append(all, op)
			continue
		}
		all = append(all, crumbs(ways[chance.Intn(len(ways))], chance)...)
	}
	return all
}

// stirred are operations whose inserts are put behind parts of the deletes beside them, by chance.
func stirred(list []api.Op, chance *rand.Rand) []api.Op {
	list = slices.Clone(list)
	for range 3 * len(list) {
		at := 1 + chance.Intn(max(1, len(list)-1))
		if at < len(list) && isInsert(list[at-1]) && list[at].Kind == api.OpDelete {
			list[at-1], list[at] = list[at], list[at-1]
		}
	}
	return list
}

// compareInParts holds what is promised of a canonical delta's operations.
func compareInParts(t *testing.T, list []api.Op, chance *rand.Rand) {
	t.Helper()
	d := made(t, list)
	whole := d.Ops()
	for i, op := range whole {
		for _, way := range cuts(op) {
			if e := made(t, slices.Concat(whole[:i], way, whole[i+1:])); !build.Same(d, e) {
				t.Fatalf("%s cut at %d is %s", short(whole...), i, short(e.Ops()...))
			}
		}
		// The insert as it stands, behind the whole delete.
		if i > 0 && op.Kind == api.OpDelete && isInsert(whole[i-1]) {
			if e := made(t, slices.Concat(whole[:i-1], of(op, whole[i-1]), whole[i+1:])); !build.Same(d, e) {
				t.Fatalf("%s with delete %d ahead of the insert is %s", short(whole...), i, short(e.Ops()...))
			}
		}
	}
	for range 3 {
		parts := crumbs(whole, chance)
		for _, other := range [][]api.Op{parts, stirred(parts, chance)} {
			if e := made(t, other); !build.Same(d, e) {
				t.Fatalf("%s in the parts %s is %s", short(whole...), short(other...), short(e.Ops()...))
			}
		}
	}
}

func TestP6_3InParts(t *testing.T) {
	chance := rand.New(rand.NewSource(64))
	all := slices.Concat(few(), of(text("a\u00e9\u20ac\U0001f600\n"), text("abcd", bold), retain(9), retain(7, bold), del(8)))
	eachList(all, 3, func(list []api.Op) { compareInParts(t, list, chance) })
	someLists(65, all, 1000, 20, func(list []api.Op) { compareInParts(t, list, chance) })
	compareInParts(t, of(text("ab"), del(most-1), retain(1, bold)), chance)
	compareInParts(t, of(text("a"), retain(most-2, bold), text("b"), del(2)), chance)
}

// P6.4: pieces and operations tell the same.

func TestP6_4PiecesAndOps(t *testing.T) {
	values := []api.Plain{{}, flag(0), flag(1), number(-7), words(""), words("\n")}
	all := few()
	for _, value := range values {
		all = append(all, embed("x", value, bold))
	}
	all = append(all, text("a\u00e9\u20ac\U0001f600\n", num("a", 1), num("b", 2)), retain(most/8, null("a"), num("b", 2)))
	someLists(66, all, 3000, 7, func(list []api.Op) {
		d := made(t, list)
		pieces, told := d.Pieces(), d.Ops()
		if len(pieces) != len(told) || len(told) != d.Count() {
			t.Fatalf("%d pieces, %d operations, Count %d of %s", len(pieces), len(told), d.Count(), short(list...))
		}
		for i, piece := range pieces {
			if !sameOp(piece.Op(), told[i]) || piece.Len() != length(told[i]) {
				t.Fatalf("piece %d of %s is %s, of the length %d", i, short(told...), short(piece.Op()), piece.Len())
			}
			bearer, bears := piece.(api.Bearer)
			if bears == (told[i].Kind == api.OpDelete) || bears && !samePairs(bearer.Attributes(), told[i].Attrs) {
				t.Fatalf("piece %d of %s as a bearer: %v, %v", i, short(told...), bears, bearer)
			}
		}
		comparePieces(t, pieces, told)
	})
}

// A piece's length is that of its whole text, however it was gathered.
func TestP6_4LengthsOfJoinedTexts(t *testing.T) {
	b := build.New()
	for range 5 {
		if b.Text("a\u00e9", pairs(bold)) != nil || b.Delete(2) != nil || b.Text("\u20ac\U0001f600", pairs(bold)) != nil {
			t.Fatal("a call is refused")
		}
	}
	want := of(text(repeated("a\u00e9\u20ac\U0001f600", 5), bold), del(10))
	compareDelta(t, b.Delta(), want)
	if insert, is := b.Delta().Pieces()[0].(api.Insert); !is || insert.Length != 20 || insert.Len() != 20 {
		t.Errorf("the piece is %v", insert)
	}
}

// The rules (P1): what is handed in isn't changed nor kept, answers are new memory.

// listsOf are the lists of attributes that a delta answers, as operations and as pieces.
func listsOf(d *build.Delta) [][]api.Attr {
	var all [][]api.Attr
	for _, op := range d.Ops() {
		all = append(all, op.Attrs)
	}
	for _, piece := range d.Pieces() {
		switch piece := piece.(type) {
		case api.Insert:
			all = append(all, piece.Attrs)
		case api.Embed:
			all = append(all, piece.Attrs)
		case api.Retain:
			all = append(all, piece.Attrs)
		}
	}
	return all
}

func TestListsAreNewMemory(t *testing.T) {
	room := pairs(num("a", 1), num("b", 2), num("\xff", 3), num("", 4))
	before := slices.Clone(room)
	set := before[:2:2]
	want := of(text("ab", set...), embed("x", flag(1), set...), retain(3, set...), text("d", set...))
	count := len(listsOf(made(t, want)))
	for i := range count {
		b := build.New()
		if b.Text("a", room[:2]) != nil || b.Push(text("b", room[:2]...)) != nil || b.Embed("x", flag(1), room[:2]) != nil || b.Retain(1, room[:2]) != nil || b.Retain(2, room[:2]) != nil {
			t.Fatal("a call is refused")
		}
		early := b.Delta()
		if b.Text("d", room[:2]) != nil {
			t.Fatal("a call is refused")
		}
		d := b.Delta()
		all := listsOf(d)
		clear(all[i][:cap(all[i])])
		for j := range all {
			if j != i && !slices.Equal(all[j], set) {
				t.Fatalf("a write into list %d is seen in list %d", i, j)
			}
		}
		if !slices.Equal(room, before) {
			t.Fatalf("a write into list %d is seen in the arguments", i)
		}
		clear(room)
		compareDelta(t, d, want)
		compareDelta(t, early, want[:3])
		compareDelta(t, b.Delta(), want)
		copy(room, before)
	}
}

// The lists of operations and of pieces are their own too, spare room included.
func TestAnswersAreTheirOwn(t *testing.T) {
	want := of(text("a"), del(1), retain(2, null("b")), embed("x", flag(1)))
	b := build.New()
	for _, op := range want {
		if err := b.Push(op); err != nil {
			t.Fatal(err)
		}
	}
	d := b.Delta()
	told, pieces := d.Ops(), d.Pieces()
	clear(told[:cap(told)])
	compareDelta(t, d, want)
	comparePieces(t, pieces, want)
	clear(pieces[:cap(pieces)])
	compareDelta(t, d, want)
	compareDelta(t, b.Delta(), want)
}

// What lies behind a list's length isn't read, and no call writes anything.
func TestArgumentsAreNotChanged(t *testing.T) {
	room := of(text("a", pairs(num("b", 1), num("c", 2), num("a", 3))[:2]...), del(1), text("b", num("b", 1), num("c", 2)), retain(2, null("b")), del(0), text("\xff"))
	before := slices.Clone(room)
	compareOf(t, room[:4])
	compareOf(t, room)
	if !sameList(room, before) {
		t.Errorf("the argument is %s now", short(room...))
	}
	if rest := room[0].Attrs[:3][2]; rest != num("a", 3) {
		t.Errorf("the spare room of the attributes is %v now", rest)
	}
	d := made(t, room[:4])
	clear(room)
	compareDelta(t, d, of(text("ab", num("b", 1), num("c", 2)), del(1), retain(2, null("b"))))
}

// within tells whether the bytes of s lie in those of a whole.
func within(s, whole string) bool {
	at, from := uintptr(unsafe.Pointer(unsafe.StringData(s))), uintptr(unsafe.Pointer(unsafe.StringData(whole)))
	return s != "" && at >= from && at < from+uintptr(len(whole))
}

// textsOf are all texts of operations.
func textsOf(list []api.Op) []string {
	var all []string
	for _, op := range list {
		all = append(all, op.Text, op.Value.Text)
		for _, pair := range op.Attrs {
			all = append(all, pair.Key, pair.Value.Text)
		}
	}
	return all
}

func TestTextsAreNewMemory(t *testing.T) {
	set := pairs(api.Attr{Key: repeated("k", 40), Value: words(repeated("v", 40))})
	list := of(text(repeated("a", 40), set...), embed(repeated("x", 40), words(repeated("y", 40)), set...), retain(2, set...), text(repeated("b", 40)), text(repeated("c", 40)))
	for _, s := range textsOf(made(t, list).Ops()) {
		for _, given := range textsOf(list) {
			if within(s, given) {
				t.Errorf("an answer has %.20q in memory of an argument", s)
			}
		}
	}
}

// A text that comes scalar by scalar takes memory, and time, by its length and not by the square of it.
func TestManyParts(t *testing.T) {
	const parts = 1 << 16
	var ahead, behind runtime.MemStats
	runtime.ReadMemStats(&ahead)
	b := build.New()
	for i := range parts {
		if err := b.Text("\u20ac", nil); err != nil {
			t.Fatal(err)
		}
		if i%2 == 0 {
			if err := b.Delete(1); err != nil {
				t.Fatal(err)
			}
		}
	}
	runtime.ReadMemStats(&behind)
	if used := (behind.TotalAlloc - ahead.TotalAlloc) / parts; used > 1<<12 {
		t.Errorf("a part takes %d bytes", used)
	}
	compareDelta(t, b.Delta(), of(text(repeated("\u20ac", parts)), del(parts/2)))
}

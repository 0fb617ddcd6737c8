package ops_test

import (
	"fmt"
	"math"
	"math/big"
	"math/rand"
	"slices"
	"strings"
	"testing"
	"unicode/utf8"
	"unsafe"

	"vellum/api"
	"vellum/attrs"
	"vellum/content"
	"vellum/ops"
	"vellum/values"
)

const most = api.MaxLength

func flag(n int64) api.Plain   { return api.Plain{Kind: api.KindFlag, Number: n} }
func number(n int64) api.Plain { return api.Plain{Kind: api.KindNumber, Number: n} }
func words(s string) api.Plain { return api.Plain{Kind: api.KindText, Text: s} }

func num(key string, n int64) api.Attr  { return api.Attr{Key: key, Value: number(n)} }
func null(key string) api.Attr          { return api.Attr{Key: key} }
func pairs(list ...api.Attr) []api.Attr { return list }
func repeated(s string, n int) string   { return strings.Repeat(s, n) }
func of(list ...api.Op) []api.Op        { return list }

var bold = api.Attr{Key: "bold", Value: flag(1)}

func text(s string, set ...api.Attr) api.Op { return api.Op{Kind: api.OpText, Text: s, Attrs: set} }
func retain(n int, patch ...api.Attr) api.Op {
	return api.Op{Kind: api.OpRetain, Count: n, Attrs: patch}
}
func del(n int) api.Op { return api.Op{Kind: api.OpDelete, Count: n} }

func embed(kind string, value api.Plain, set ...api.Attr) api.Op {
	return api.Op{Kind: api.OpEmbed, Text: kind, Value: value, Attrs: set}
}

// short tells of operations without the whole of long texts.
func short(list ...api.Op) string {
	var all strings.Builder
	for _, op := range list {
		fmt.Fprintf(&all, "{%d %.30q(%d) {%d %d %.20q(%d)} %d %.200v}", op.Kind, op.Text, len(op.Text), op.Value.Kind, op.Value.Number, op.Value.Text, len(op.Value.Text), op.Count, op.Attrs)
	}
	return all.String()
}

// The model: operations are looked at as plain data, apart from the pieces that the package makes of them.

func isInsert(op api.Op) bool { return op.Kind == api.OpText || op.Kind == api.OpEmbed }

// fault is the error that the chapter tells for op; nil, if it is well formed.
func fault(op api.Op) error {
	has := map[int][4]int{api.OpText: {1, 0, 0, 1}, api.OpEmbed: {1, 1, 0, 1}, api.OpRetain: {0, 0, 1, 1}, api.OpDelete: {0, 0, 1, 0}}
	fields, known := has[op.Kind]
	filled := [4]bool{op.Text != "", op.Value.Kind != 0 || op.Value.Number != 0 || op.Value.Text != "", op.Count != 0, len(op.Attrs) != 0}
	for i, is := range filled {
		if !known || is && fields[i] == 0 {
			return api.ErrOp
		}
	}
	if isInsert(op) {
		_, err := content.Of(op)
		return err
	}
	if op.Count < 1 {
		return api.ErrOp
	}
	if op.Count > 1<<40 {
		return api.ErrLong
	}
	if op.Kind == api.OpRetain {
		return attrs.Check(op.Attrs, true)
	}
	return nil
}

// firstFault is the number of the first operation that isn't well formed, and its error.
func firstFault(list []api.Op) (int, error) {
	for i, op := range list {
		if err := fault(op); err != nil {
			return i, err
		}
	}
	return 0, nil
}

// length is how many cells a well formed operation makes, keeps or takes away.
func length(op api.Op) int {
	switch op.Kind {
	case api.OpText:
		return utf8.RuneCountInString(op.Text)
	case api.OpEmbed:
		return 1
	}
	return op.Count
}

// lengths are the base length and the result length of well formed operations, as whole numbers without a bound.
func lengths(list []api.Op) (base, result *big.Int) {
	base, result = new(big.Int), new(big.Int)
	for _, op := range list {
		n := big.NewInt(int64(length(op)))
		if !isInsert(op) {
			base.Add(base, n)
		}
		if op.Kind != api.OpDelete {
			result.Add(result, n)
		}
	}
	return base, result
}

// isLong tells whether well formed operations have a length above the bound.
func isLong(list []api.Op) bool {
	base, result := lengths(list)
	bound := big.NewInt(1 << 40)
	return base.Cmp(bound) > 0 || result.Cmp(bound) > 0
}

func samePlain(a, b api.Plain) bool {
	return a.Kind == b.Kind && a.Number == b.Number && a.Text == b.Text
}

func samePairs(a, b []api.Attr) bool {
	return slices.EqualFunc(a, b, func(a, b api.Attr) bool { return a.Key == b.Key && samePlain(a.Value, b.Value) })
}

func sameOp(a, b api.Op) bool {
	return a.Kind == b.Kind && a.Text == b.Text && samePlain(a.Value, b.Value) && a.Count == b.Count && samePairs(a.Attrs, b.Attrs)
}

func sameList(a, b []api.Op) bool { return slices.EqualFunc(a, b, sameOp) }

func isPlain(op api.Op) bool { return op.Kind == api.OpRetain && len(op.Attrs) == 0 }

// canonical tells what the section Deltas says of a list, condition by condition.
func canonical(list []api.Op) bool {
	if _, err := firstFault(list); err != nil || isLong(list) {
		return false
	}
	for i := 1; i < len(list); i++ {
		a, b := list[i-1], list[i]
		if a.Kind == api.OpDelete && (b.Kind == api.OpDelete || isInsert(b)) {
			return false
		}
		if a.Kind == b.Kind && (a.Kind == api.OpRetain || a.Kind == api.OpText) && samePairs(a.Attrs, b.Attrs) {
			return false
		}
	}
	return len(list) == 0 || !isPlain(list[len(list)-1])
}

// The operations that are gone through: good ones, and wrong ones in every way, and in several at a time.

var (
	kinds  = []int{math.MinInt, -1, 0, api.OpText, api.OpEmbed, api.OpRetain, api.OpDelete, 5, 1<<32 + api.OpRetain, math.MaxInt}
	texts  = []string{"", "a", "a\u00e9\u20ac\U0001f600\n", "\xff", repeated("k", 64), repeated("k", 65), repeated("\xff", 65)}
	plains = []api.Plain{{}, flag(0), flag(1), number(-5), words(""), flag(2), words("\xff"), {Kind: 9}, {Number: 1}, {Text: "x"}}
	counts = []int{0, 1, 2, most - 1, most, most + 1, 1<<32 + 1, -1, -most, math.MinInt, math.MaxInt}
	lists  = [][]api.Attr{
		nil, {}, pairs(num("b", 1)), pairs(num("b", 1), num("c", 2)), pairs(null("b")), pairs(null("b"), bold, null("c")),
		pairs(num("c", 1), num("b", 1)), pairs(num("b", 1), num("b", 1)), pairs(null("b"), null("b")), pairs(num("", 1)), pairs(num("\xff", 1)),
		pairs(num(repeated("k", 64), 1)), pairs(num(repeated("k", 65), 1)), pairs(api.Attr{Key: "b", Value: flag(2)}), pairs(api.Attr{Key: "b", Value: words("\xff")}),
		pairs(null("b"), num("", 1)), pairs(num("b", 1), num("a", 1), num("", 1)),
	}
)

// eachOp goes over all of the kinds, texts, values, counts and lists together.
func eachOp(visit func(op api.Op)) {
	for _, kind := range kinds {
		for _, s := range texts {
			for _, value := range plains {
				for _, count := range counts {
					for _, list := range lists {
						visit(api.Op{Kind: kind, Text: s, Value: value, Count: count, Attrs: list})
					}
				}
			}
		}
	}
}

// longOps have texts about the bound of a value's, which doesn't hold for inserted ones.
func longOps() []api.Op {
	long, longer := words(repeated("a", api.MaxText)), words(repeated("a", api.MaxText+1))
	return of(
		text(longer.Text), embed("x", long), embed("x", longer), retain(1, api.Attr{Key: "b", Value: long}), retain(1, api.Attr{Key: "b", Value: longer}),
		retain(0, api.Attr{Key: "b", Value: longer}), text("a", api.Attr{Key: "b", Value: longer}), api.Op{Kind: api.OpDelete, Count: 1, Text: longer.Text},
	)
}

// goodOps are well formed ones, whose attributes are often the same.
func goodOps() []api.Op {
	all := of(del(1), del(2), del(most), retain(1), retain(2), retain(most), retain(1, null("b")), retain(2, null("b")), retain(most, null("b"), num("c", 1)))
	for _, set := range [][]api.Attr{nil, {}, pairs(bold), pairs(num("bold", 1)), pairs(num("a", 1), num("b", 2))} {
		all = append(all, text("a", set...), text("a\u00e9\u20ac\n", set...), text("image", set...), retain(1, set...), retain(7, set...))
		all = append(all, embed("image", api.Plain{}, set...), embed("image", words("\n"), set...), embed("a", flag(0), set...))
	}
	return all
}

// wrongOps are one operation for each kind of fault.
func wrongOps() []api.Op {
	return of(
		api.Op{}, api.Op{Kind: 5, Count: 1}, del(0), del(-1), del(most+1), retain(0), retain(most+1), text(""), text("\xff"), embed("", flag(1)),
		embed(repeated("k", 65), flag(1)), embed("x", flag(2)), embed("x", words("\xff")), text("a", null("b")), embed("x", flag(1), null("b")),
		text("a", num("b", 1), num("a", 1)), retain(1, num("b", 1), num("a", 1)), retain(1, num("", 1)), retain(1, num("\xff", 1)),
		api.Op{Kind: api.OpDelete, Count: 1, Attrs: pairs(bold)}, api.Op{Kind: api.OpDelete, Count: 1, Text: "x"}, api.Op{Kind: api.OpDelete, Count: 1, Value: flag(0)},
		api.Op{Kind: api.OpRetain, Count: 1, Text: "x"}, api.Op{Kind: api.OpRetain, Count: 1, Value: flag(0)}, api.Op{Kind: api.OpText, Text: "a", Count: 1},
		api.Op{Kind: api.OpText, Text: "a", Value: flag(0)}, api.Op{Kind: api.OpEmbed, Text: "a", Count: 1},
	)
}

// eachList goes over all lists of at most so many of the operations.
func eachList(all []api.Op, longest int, visit func(list []api.Op)) {
	var grow func(list []api.Op)
	grow = func(list []api.Op) {
		visit(list)
		if len(list) == longest {
			return
		}
		for _, op := range all {
			grow(append(slices.Clip(list), op))
		}
	}
	grow(nil)
}

// few are operations that may and may not stand beside one another in every way.
func few() []api.Op {
	return of(
		text("a"), text("b"), text("a", bold), text("b\u00e9", bold), text("a", num("bold", 1)), embed("a", api.Plain{}), embed("b", flag(1), bold),
		retain(1), retain(2), retain(1, bold), retain(2, bold), retain(1, null("bold")), retain(2, null("bold")), del(1), del(2),
	)
}

// long are operations whose lengths sum to about the bound.
func long() []api.Op {
	return of(retain(most), retain(most-1, bold), retain(1, null("b")), del(most), del(most-2), del(1), text("a"), text("ab", bold), embed("x", flag(1)))
}

// P5.1: every call answers what is told.

// comparePiece holds a piece against the fields of its operation.
func comparePiece(t *testing.T, op api.Op, piece api.Piece) {
	t.Helper()
	good := false
	switch piece := piece.(type) {
	case api.Insert:
		good = op.Kind == api.OpText && piece.Text == op.Text && piece.Length == utf8.RuneCountInString(op.Text) && samePairs(piece.Attrs, op.Attrs)
	case api.Embed:
		value, err := values.Of(op.Value)
		good = op.Kind == api.OpEmbed && piece.Kind == op.Text && piece.Value == value && err == nil && samePairs(piece.Attrs, op.Attrs)
	case api.Retain:
		good = op.Kind == api.OpRetain && piece.Count == op.Count && samePairs(piece.Attrs, op.Attrs)
	case api.Delete:
		good = op.Kind == api.OpDelete && piece.Count == op.Count
	}
	if !good {
		t.Fatalf("the piece of %s is a %T: %.200v", short(op), piece, piece)
	}
}

// compareOf holds Of against the model.
func compareOf(t *testing.T, list []api.Op) {
	t.Helper()
	at, want := firstFault(list)
	pieces, n, err := ops.Of(list)
	if n != at || err != want || want != nil && len(pieces) != 0 || want == nil && len(pieces) != len(list) {
		t.Fatalf("Of(%s) = %.200v, %d, %v, not %d, %v", short(list...), pieces, n, err, at, want)
	}
	for i, piece := range pieces {
		comparePiece(t, list[i], piece)
	}
}

// compareBearers holds Bearers against the model.
func compareBearers(t *testing.T, list []api.Op) {
	t.Helper()
	_, want := firstFault(list)
	var places []int
	for i, op := range list {
		if want == nil && op.Kind != api.OpDelete {
			places = append(places, i)
		}
	}
	bearers, numbers, err := ops.Bearers(list)
	if !slices.Equal(numbers, places) || len(bearers) != len(places) || err != want {
		t.Fatalf("Bearers(%s) = %.200v, %v, %v, not %v, %v", short(list...), bearers, numbers, err, places, want)
	}
	for i, bearer := range bearers {
		comparePiece(t, list[places[i]], bearer)
	}
}

// compareLengths holds Lengths against the model.
func compareLengths(t *testing.T, list []api.Op) {
	t.Helper()
	base, result := new(big.Int), new(big.Int)
	_, want := firstFault(list)
	if want == nil && isLong(list) {
		want = api.ErrLong
	} else if want == nil {
		base, result = lengths(list)
	}
	if b, r, err := ops.Lengths(list); big.NewInt(int64(b)).Cmp(base) != 0 || big.NewInt(int64(r)).Cmp(result) != 0 || err != want {
		t.Fatalf("Lengths(%s) = %d, %d, %v, not %v, %v, %v", short(list...), b, r, err, base, result, want)
	}
}

// compareAll holds every call that takes one list against the model.
func compareAll(t *testing.T, list []api.Op) {
	t.Helper()
	compareOf(t, list)
	compareBearers(t, list)
	compareLengths(t, list)
	if is := ops.Canonical(list); is != canonical(list) {
		t.Fatalf("Canonical(%s) = %v", short(list...), is)
	}
}

// compareCheck holds Check, and the calls of a list of one, against the model.
func compareCheck(t *testing.T, op api.Op) {
	t.Helper()
	if err := ops.Check(op); err != fault(op) {
		t.Fatalf("Check(%s) = %v, not %v", short(op), err, fault(op))
	}
	compareAll(t, of(op))
}

func TestP5_1OddOperations(t *testing.T) {
	eachOp(func(op api.Op) { compareCheck(t, op) })
}

func TestP5_1LongOperations(t *testing.T) {
	for _, op := range longOps() {
		compareCheck(t, op)
	}
}

func TestP5_1ShortLists(t *testing.T) {
	eachList(few(), 4, func(list []api.Op) { compareAll(t, list) })
	for _, list := range [][]api.Op{nil, {}} {
		compareAll(t, list)
	}
}

func TestP5_1ListsAboutTheBound(t *testing.T) {
	eachList(long(), 4, func(list []api.Op) { compareAll(t, list) })
}

// Of several wrong operations the first one counts, and each ahead of what the whole list is.
func TestP5_1ListsWithWrongOperations(t *testing.T) {
	wrong, good := wrongOps(), few()
	for _, op := range wrong {
		compareCheck(t, op)
		for _, other := range slices.Concat(wrong, goodOps()) {
			compareAll(t, of(op, other))
			compareAll(t, of(other, op))
			compareAll(t, of(text("a", bold), other, op))
		}
		compareAll(t, of(retain(most), del(most), op))
		compareAll(t, of(text("a"), retain(most), op))
		compareAll(t, of(op, retain(most), del(most)))
		for i := range good {
			list := slices.Clone(good)
			list[i] = op
			compareAll(t, list)
		}
	}
}

// Sums that go far beyond the bound, by many small steps or by a few great ones, and sums that just keep it.
func TestP5_1LongLists(t *testing.T) {
	for _, op := range of(retain(most), retain(most, bold), del(most), retain(most-1)) {
		list := slices.Repeat(of(op), 1<<10)
		compareAll(t, list)
		compareAll(t, append(list, del(0)))
	}
	for _, op := range of(text("a\u00e9"), embed("x", flag(1)), retain(1), del(1), retain(1, bold)) {
		compareAll(t, slices.Repeat(of(op), 1<<10))
	}
	compareAll(t, slices.Repeat(of(retain(1<<30), del(1<<30), text("a")), 1<<9))
	compareAll(t, slices.Repeat(of(retain(1<<30), del(1<<30), embed("x", flag(1))), 1<<9+1))
}

func TestP5_1Same(t *testing.T) {
	all := slices.Concat(goodOps(), wrongOps())
	var some [][]api.Op
	for _, op := range all {
		some = append(some, of(op))
	}
	eachList(of(text("a"), text("a", bold), del(0), api.Op{Kind: 9, Count: -1}), 3, func(list []api.Op) { some = append(some, list) })
	for _, a := range some {
		for _, b := range some {
			if is := ops.Same(a, b); is != sameList(a, b) {
				t.Fatalf("Same(%s, %s) = %v", short(a...), short(b...), is)
			}
		}
	}
}

// One field changed, in one operation of a list, and no other.
func TestP5_1SameOfOneField(t *testing.T) {
	odd := api.Op{Kind: 9, Text: "\xff", Value: api.Plain{Kind: 9, Number: 7, Text: "\xff"}, Count: -3, Attrs: pairs(num("b", 1), api.Attr{Key: "\xff", Value: api.Plain{Kind: 9, Number: 7, Text: "x"}}, num("", 2))}
	for i, change := range []func(op *api.Op){
		func(op *api.Op) { op.Kind++ },
		func(op *api.Op) { op.Text += "x" },
		func(op *api.Op) { op.Value.Kind++ },
		func(op *api.Op) { op.Value.Number++ },
		func(op *api.Op) { op.Value.Text += "x" },
		func(op *api.Op) { op.Count++ },
		func(op *api.Op) { op.Attrs = append(op.Attrs, num("z", 1)) },
		func(op *api.Op) { op.Attrs = op.Attrs[1:] },
		func(op *api.Op) { op.Attrs = op.Attrs[:2] },
		func(op *api.Op) { op.Attrs[1].Key += "x" },
		func(op *api.Op) { op.Attrs[1].Value.Kind++ },
		func(op *api.Op) { op.Attrs[1].Value.Number++ },
		func(op *api.Op) { op.Attrs[1].Value.Text += "x" },
		func(op *api.Op) { op.Attrs[2].Key += "x" },
	} {
		for at := range 3 {
			a, b := of(odd, odd, odd), of(odd, odd, odd)
			b[at].Attrs = slices.Clone(odd.Attrs)
			if !ops.Same(a, b) || !ops.Same(b, a) {
				t.Fatalf("%s isn't the same as itself", short(odd))
			}
			change(&b[at])
			if ops.Same(a, b) || ops.Same(b, a) {
				t.Errorf("change %d: %s and %s are the same", i, short(a[at]), short(b[at]))
			}
		}
	}
	if !ops.Same(nil, of()) || !ops.Same(of(text("a")), of(text("a", pairs()...))) || ops.Same(nil, of(api.Op{})) || ops.Same(of(api.Op{}), nil) {
		t.Error("Same of nil and empty lists")
	}
}

func TestP5_1ExamplesOfCheck(t *testing.T) {
	for i, x := range []struct {
		op   api.Op
		want error
	}{
		{del(0), api.ErrOp}, {del(1), nil}, {del(1 << 40), nil}, {del(1<<40 + 1), api.ErrLong}, {retain(1 << 40), nil}, {retain(1<<40 + 1), api.ErrLong},
		{api.Op{Kind: api.OpDelete, Count: 1, Text: "x"}, api.ErrOp}, {api.Op{Kind: api.OpDelete, Count: 1, Attrs: pairs(bold)}, api.ErrOp},
		{api.Op{Kind: api.OpDelete, Count: 1, Attrs: pairs()}, nil}, {api.Op{Kind: api.OpDelete, Count: 1, Value: number(0)}, api.ErrOp},
		{retain(1, api.Attr{Key: "b", Value: flag(1)}, api.Attr{Key: "a", Value: flag(1)}), api.ErrAttrs}, {text(""), api.ErrOp},
		{retain(1, null("b")), nil}, {text("a", null("b")), api.ErrNull}, {embed("x", api.Plain{}, null("b")), api.ErrNull}, {embed("x", api.Plain{}), nil},
		{api.Op{}, api.ErrOp}, {api.Op{Kind: 5, Count: 1}, api.ErrOp}, {api.Op{Kind: -1, Count: 1}, api.ErrOp}, {embed("", flag(1)), api.ErrKey},
		{text("\xff"), api.ErrUtf8}, {embed("x", api.Plain{Kind: 9}), api.ErrKind}, {embed("x", words(repeated("a", api.MaxText+1))), api.ErrLimit},
		// Of several faults the first that the chapter names.
		{api.Op{Kind: api.OpText, Text: "\xff", Value: api.Plain{Kind: 9}}, api.ErrOp}, {api.Op{Kind: api.OpEmbed, Count: 1}, api.ErrOp},
		{api.Op{Kind: api.OpDelete, Count: 1<<40 + 1, Attrs: pairs(bold)}, api.ErrOp}, {api.Op{Kind: api.OpDelete, Count: 1<<40 + 1, Text: "x"}, api.ErrOp},
		{api.Op{Kind: api.OpRetain, Count: 1<<40 + 1, Text: "x"}, api.ErrOp}, {api.Op{Kind: api.OpRetain, Count: 1<<40 + 1, Value: flag(1)}, api.ErrOp},
		{retain(1<<40+1, num("", 1)), api.ErrLong}, {retain(0, num("", 1)), api.ErrOp}, {api.Op{Kind: 5, Text: "\xff", Count: 1<<40 + 1}, api.ErrOp},
	} {
		if fault(x.op) != x.want {
			t.Errorf("row %d: the model tells %v of %s", i, fault(x.op), short(x.op))
		}
		compareCheck(t, x.op)
	}
}

func TestP5_1ExamplesOfLists(t *testing.T) {
	if b, r, err := ops.Lengths(of(retain(3), text("ab"), del(2))); b != 5 || r != 5 || err != nil {
		t.Errorf("Lengths = %d, %d, %v", b, r, err)
	}
	if b, r, err := ops.Lengths(of(retain(1<<40), del(1))); b != 0 || r != 0 || err != api.ErrLong {
		t.Errorf("Lengths = %d, %d, %v", b, r, err)
	}
	for i, x := range []struct {
		list []api.Op
		want bool
	}{
		{of(text("a"), del(2)), true}, {of(del(2), text("a")), false}, {of(del(2), embed("x", flag(1))), false}, {of(retain(1), retain(1)), false},
		{of(retain(1, bold), retain(1)), false}, {of(retain(1), text("a", bold), text("b")), true}, {of(embed("x", flag(1)), embed("x", flag(1))), true}, {nil, true},
		{of(retain(1), retain(1, bold)), true}, {of(retain(1, null("b"))), true}, {of(del(1), retain(1, bold), del(1)), true}, {of(del(1), retain(1)), false},
		{of(del(1), del(1)), false}, {of(retain(most, bold), text("a")), false}, {of(retain(most, bold), del(1)), false}, {of(text("a"), del(most)), true},
	} {
		if is := ops.Canonical(x.list); is != x.want || canonical(x.list) != x.want {
			t.Errorf("row %d: Canonical(%s) = %v", i, short(x.list...), is)
		}
	}
	bearers, numbers, err := ops.Bearers(of(retain(2), del(1), text("a")))
	if len(bearers) != 2 || !slices.Equal(numbers, []int{0, 2}) || err != nil {
		t.Fatalf("Bearers = %v, %v, %v", bearers, numbers, err)
	}
	_, isRetain := bearers[0].(api.Retain)
	_, isText := bearers[1].(api.Insert)
	if !isRetain || !isText {
		t.Errorf("Bearers = %v", bearers)
	}
}

// atoms are operations cell by cell, what is inserted between two retains ahead of what is deleted there, and plain retains at the end gone: two lists with the same atoms have the same edit.
func atoms(list []api.Op) []api.Op {
	var all, inserts, deletes []api.Op
	for _, op := range list {
		switch op.Kind {
		case api.OpText:
			for _, r := range op.Text {
				inserts = append(inserts, text(string(r), op.Attrs...))
			}
		case api.OpEmbed:
			inserts = append(inserts, op)
		case api.OpDelete:
			deletes = append(deletes, slices.Repeat(of(del(1)), op.Count)...)
		case api.OpRetain:
			all = slices.Concat(all, inserts, deletes, slices.Repeat(of(retain(1, op.Attrs...)), op.Count))
			inserts, deletes = nil, nil
		}
	}
	all = slices.Concat(all, inserts, deletes)
	for len(all) > 0 && isPlain(all[len(all)-1]) {
		all = all[:len(all)-1]
	}
	return all
}

// gathered are atoms as operations, as long as may be.
func gathered(all []api.Op) []api.Op {
	var list []api.Op
	for _, op := range all {
		last := len(list) - 1
		if last < 0 || op.Kind == api.OpEmbed || list[last].Kind != op.Kind || !samePairs(list[last].Attrs, op.Attrs) {
			list = append(list, op)
			continue
		}
		list[last].Text += op.Text
		list[last].Count += op.Count
	}
	return list
}

// Of the lists that have one edit, just one is canonical.
func TestP5_1OneCanonicalListForAnEdit(t *testing.T) {
	eachList(few(), 4, func(list []api.Op) {
		if want := sameList(gathered(atoms(list)), list); ops.Canonical(list) != want {
			t.Fatalf("Canonical(%s) isn't %v", short(list...), want)
		}
	})
}

// P5.2: there and back.

func TestP5_2ThereAndBack(t *testing.T) {
	good := goodOps()
	for _, a := range good {
		for _, b := range good {
			list := of(a, b, a)
			pieces, n, err := ops.Of(list)
			if len(pieces) != 3 || n != 0 || err != nil {
				t.Fatalf("Of(%s) = %v, %d, %v", short(list...), pieces, n, err)
			}
			for i, piece := range pieces {
				if back := of(piece.Op()); !ops.Same(back, list[i:i+1]) || !sameList(back, list[i:i+1]) {
					t.Fatalf("the Op of the piece of %s is %s", short(list[i]), short(back...))
				}
				if piece.Len() != length(list[i]) {
					t.Fatalf("the piece of %s has the length %d", short(list[i]), piece.Len())
				}
			}
			compareBorne(t, list, pieces)
		}
	}
}

// compareBorne holds the Bearers of well formed operations against their pieces.
func compareBorne(t *testing.T, list []api.Op, pieces []api.Piece) {
	t.Helper()
	bearers, numbers, err := ops.Bearers(list)
	if len(bearers) != len(numbers) || err != nil {
		t.Fatalf("Bearers(%s) = %v, %v, %v", short(list...), bearers, numbers, err)
	}
	next := 0
	for i, piece := range pieces {
		_, isDelete := piece.(api.Delete)
		if isDelete {
			continue
		}
		if next == len(numbers) || numbers[next] != i {
			t.Fatalf("Bearers(%s) are numbers %v", short(list...), numbers)
		}
		if bearer := bearers[next]; !samePairs(bearer.Attributes(), list[i].Attrs) || !sameOp(bearer.Op(), piece.Op()) {
			t.Fatalf("Bearer %d of %s is %v", next, short(list...), bearer)
		}
		next++
	}
	if next != len(numbers) {
		t.Fatalf("Bearers(%s) are numbers %v", short(list...), numbers)
	}
}

// P5.3: lengths of two lists, one behind the other.

func TestP5_3Sums(t *testing.T) {
	var all [][]api.Op
	eachList(append(long(), retain(3), text("a\u00e9\u20ac")), 2, func(list []api.Op) { all = append(all, list) })
	for _, a := range all {
		aBase, aResult, aErr := ops.Lengths(a)
		for _, b := range all {
			bBase, bResult, bErr := ops.Lengths(b)
			base, result, err := ops.Lengths(slices.Concat(a, b))
			if err == nil && (aErr != nil || bErr != nil || base != aBase+bBase || result != aResult+bResult) {
				t.Fatalf("Lengths of %s and %s: %d, %d", short(a...), short(b...), base, result)
			}
			fits := aErr == nil && bErr == nil && aBase+bBase <= most && aResult+bResult <= most
			if fits != (err == nil) {
				t.Fatalf("Lengths of %s and %s: %v", short(a...), short(b...), err)
			}
		}
	}
}

func TestP5_3AnyOrder(t *testing.T) {
	some := rand.New(rand.NewSource(5))
	eachList(long(), 4, func(list []api.Op) {
		other := slices.Clone(list)
		slices.Reverse(other)
		for range 3 {
			base, result, err := ops.Lengths(list)
			if b, r, e := ops.Lengths(other); b != base || r != result || e != err {
				t.Fatalf("Lengths of %s and of %s aren't the same", short(list...), short(other...))
			}
			some.Shuffle(len(other), func(i, j int) { other[i], other[j] = other[j], other[i] })
		}
	})
}

// P5.4: beginnings of canonical lists; an operation doubled.

// compareParts holds what the promise says of a canonical list.
func compareParts(t *testing.T, list []api.Op) {
	t.Helper()
	for n := range list {
		if head := list[:n]; ops.Canonical(head) != (n == 0 || !isPlain(list[n-1])) {
			t.Fatalf("Canonical(%s) = %v", short(head...), ops.Canonical(head))
		}
		doubled := slices.Insert(slices.Clone(list), n, list[n])
		if want := list[n].Kind == api.OpEmbed && !isLong(doubled); ops.Canonical(doubled) != want {
			t.Fatalf("Canonical(%s) isn't %v", short(doubled...), want)
		}
	}
}

func TestP5_4BeginningsAndDoubled(t *testing.T) {
	seen := 0
	for _, all := range [][]api.Op{few(), long()} {
		eachList(all, 4, func(list []api.Op) {
			if ops.Canonical(list) {
				seen++
				compareParts(t, list)
			}
		})
	}
	if seen < 1000 {
		t.Errorf("there are %d canonical lists alone", seen)
	}
	compareParts(t, of(text("a"), embed("x", flag(1)), del(1), retain(most-1, bold)))
	compareParts(t, of(text("a"), embed("x", flag(1)), del(2), retain(most-2, bold)))
	compareParts(t, of(embed("x", flag(1)), retain(most-1, bold)))
	compareParts(t, of(embed("x", flag(1)), retain(most-2, bold)))
}

// The rules (P1): what is handed in isn't changed nor kept, answers are new memory.

// listsOf are the lists of attributes that pieces hold.
func listsOf(t *testing.T, pieces []api.Piece) [][]api.Attr {
	t.Helper()
	var all [][]api.Attr
	for _, piece := range pieces {
		switch piece := piece.(type) {
		case api.Insert:
			all = append(all, piece.Attrs)
		case api.Embed:
			all = append(all, piece.Attrs)
		case api.Retain:
			all = append(all, piece.Attrs)
		}
	}
	return all
}

// answers are the pieces of Of and of Bearers, as lists of attributes.
func answers(t *testing.T, list []api.Op) [][]api.Attr {
	t.Helper()
	pieces, _, err := ops.Of(list)
	bearers, _, bearersErr := ops.Bearers(list)
	if err != nil || bearersErr != nil {
		t.Fatal(err, bearersErr)
	}
	for _, bearer := range bearers {
		pieces = append(pieces, bearer)
	}
	return listsOf(t, pieces)
}

func TestListsAreNewMemory(t *testing.T) {
	room := pairs(num("a", 1), num("b", 2), num("\xff", 3), num("", 4))
	before := slices.Clone(room)
	set := before[:2:2]
	list := of(text("abc", room[:2]...), embed("x", words("y"), room[:2]...), retain(3, room[:2]...), retain(4, room[:2]...), text("d", room[:2]...))
	for i := range answers(t, list) {
		all, later := answers(t, list), answers(t, list)
		clear(all[i][:cap(all[i])])
		for j := range all {
			if j != i && !slices.Equal(all[j], set) || !slices.Equal(later[j], set) {
				t.Fatalf("a write into list %d is seen in list %d", i, j)
			}
		}
		if !slices.Equal(room, before) {
			t.Fatalf("a write into list %d is seen in the arguments", i)
		}
		clear(room)
		for j := range later {
			if !slices.Equal(later[j], set) {
				t.Fatalf("a write into the arguments is seen in list %d", j)
			}
		}
		copy(room, before)
	}
}

// The lists of pieces and of numbers are their own too, spare room included.
func TestAnswersAreTheirOwn(t *testing.T) {
	list := of(text("a"), del(1), retain(2, null("b")), embed("x", flag(1)))
	given := slices.Clone(list)
	pieces, _, err := ops.Of(list)
	bearers, numbers, bearersErr := ops.Bearers(list)
	if err != nil || bearersErr != nil {
		t.Fatal(err, bearersErr)
	}
	clear(pieces[:cap(pieces)])
	clear(bearers[:cap(bearers)])
	clear(numbers[:cap(numbers)])
	if !sameList(list, given) {
		t.Errorf("a write into an answer is seen in the argument: %s", short(list...))
	}
	compareAll(t, list)
}

// What lies behind a list's length isn't read, and no call writes anything.
func TestArgumentsAreNotChanged(t *testing.T) {
	room := of(text("a", pairs(num("b", 1), num("c", 2), num("a", 3))[:2]...), del(1), retain(2, null("b")), del(0), text("\xff"))
	before := slices.Clone(room)
	compareAll(t, room[:3])
	compareAll(t, room)
	if !ops.Same(room[:3], before[:3]) || !ops.Same(room[:3], room[:3]) || !sameList(room, before) {
		t.Errorf("the argument is %s now", short(room...))
	}
	if rest := room[0].Attrs[:3][2]; rest != num("a", 3) {
		t.Errorf("the spare room of the attributes is %v now", rest)
	}
}

// within tells whether the bytes of s lie in those of a whole.
func within(s, whole string) bool {
	at, from := uintptr(unsafe.Pointer(unsafe.StringData(s))), uintptr(unsafe.Pointer(unsafe.StringData(whole)))
	return s != "" && at >= from && at < from+uintptr(len(whole))
}

// textsOf are all texts of operations.
func textsOf(list []api.Op) []string {
	var all []string
	for _, op := range list {
		all = append(all, op.Text, op.Value.Text)
		for _, pair := range op.Attrs {
			all = append(all, pair.Key, pair.Value.Text)
		}
	}
	return all
}

func TestTextsAreNewMemory(t *testing.T) {
	set := pairs(api.Attr{Key: repeated("k", 40), Value: words(repeated("v", 40))})
	list := of(text(repeated("a", 40), set...), embed(repeated("x", 40), words(repeated("y", 40)), set...), retain(2, set...))
	pieces, _, err := ops.Of(list)
	bearers, _, bearersErr := ops.Bearers(list)
	if err != nil || bearersErr != nil {
		t.Fatal(err, bearersErr)
	}
	var answered []api.Op
	for i := range list {
		answered = append(answered, pieces[i].Op(), bearers[i].Op())
	}
	for _, s := range textsOf(answered) {
		for _, given := range textsOf(list) {
			if within(s, given) {
				t.Errorf("an answer has %.20q in memory of an argument", s)
			}
		}
	}
}

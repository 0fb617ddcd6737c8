package content_test

import (
	"fmt"
	"math"
	"slices"
	"strings"
	"testing"
	"unicode/utf8"
	"unsafe"

	"vellum/api"
	"vellum/attrs"
	"vellum/content"
	"vellum/values"
)

func flag(n int64) api.Plain   { return api.Plain{Kind: api.KindFlag, Number: n} }
func number(n int64) api.Plain { return api.Plain{Kind: api.KindNumber, Number: n} }
func words(s string) api.Plain { return api.Plain{Kind: api.KindText, Text: s} }

func num(key string, n int64) api.Attr     { return api.Attr{Key: key, Value: number(n)} }
func pairs(list ...api.Attr) []api.Attr    { return list }
func repeated(s string, n int) string      { return strings.Repeat(s, n) }
func bold() []api.Attr                     { return pairs(api.Attr{Key: "bold", Value: flag(1)}) }
func text(s string, set []api.Attr) api.Op { return api.Op{Kind: api.OpText, Text: s, Attrs: set} }

func embed(kind string, value api.Plain, set []api.Attr) api.Op {
	return api.Op{Kind: api.OpEmbed, Text: kind, Value: value, Attrs: set}
}

// short tells of an operation without the whole of long texts.
func short(op api.Op) string {
	return fmt.Sprintf("{%d %.30q(%d) {%d %d %.20q(%d)} %d %.200v}", op.Kind, op.Text, len(op.Text), op.Value.Kind, op.Value.Number, op.Value.Text, len(op.Value.Text), op.Count, op.Attrs)
}

// The model: an insert is held as runes and fields, apart from how the package makes pieces of it.

// fault is the error that the chapter tells for op; nil, if it is an insert.
func fault(op api.Op) error {
	isText, isEmbed := op.Kind == 1, op.Kind == 2
	if !isText && !isEmbed {
		return api.ErrKind
	}
	if op.Count != 0 {
		return api.ErrOp
	}
	if isText && (len(op.Text) == 0 || op.Value.Kind != 0 || op.Value.Number != 0 || op.Value.Text != "") {
		return api.ErrOp
	}
	if isEmbed && (len(op.Text) < 1 || len(op.Text) > 64) {
		return api.ErrKey
	}
	if !utf8.ValidString(op.Text) {
		return api.ErrUtf8
	}
	if isEmbed {
		if err := values.Check(op.Value); err != nil {
			return err
		}
	}
	return attrs.Check(op.Attrs, false)
}

// cells are those of an insert.
func cells(op api.Op) []api.Cell {
	if op.Kind == api.OpEmbed {
		return []api.Cell{{Rune: -1, Kind: op.Text, Value: op.Value, Attrs: op.Attrs}}
	}
	var list []api.Cell
	for _, r := range []rune(op.Text) {
		list = append(list, api.Cell{Rune: r, Attrs: op.Attrs})
	}
	return list
}

func samePairs(a, b []api.Attr) bool {
	if len(a) != len(b) {
		return false
	}
	for i := range a {
		p, q := a[i].Value, b[i].Value
		if a[i].Key != b[i].Key || p.Kind != q.Kind || p.Number != q.Number || p.Text != q.Text {
			return false
		}
	}
	return true
}

func samePlain(a, b api.Plain) bool {
	return a.Kind == b.Kind && a.Number == b.Number && a.Text == b.Text
}

func sameOp(a, b api.Op) bool {
	return a.Kind == b.Kind && a.Text == b.Text && samePlain(a.Value, b.Value) && a.Count == b.Count && samePairs(a.Attrs, b.Attrs)
}

func sameCells(a, b []api.Cell) bool {
	return slices.EqualFunc(a, b, func(a, b api.Cell) bool {
		return a.Rune == b.Rune && a.Kind == b.Kind && samePlain(a.Value, b.Value) && samePairs(a.Attrs, b.Attrs)
	})
}

// isEmpty tells whether op is the zero operation, but that an empty list may be nil or not.
func isEmpty(op api.Op) bool { return sameOp(op, api.Op{}) }

// The operations that are gone through: good ones, and wrong ones in every way, and in several at a time.

var (
	kinds = []int{math.MinInt, -1, 0, api.OpText, api.OpEmbed, api.OpRetain, api.OpDelete, 5, 1<<32 + api.OpText, math.MaxInt}
	texts = []string{
		"", "a", "\n", "\x00", "ab", "a\u00e9\u20ac\U0001f600", "a\n\nb\n", "\r\n\u2028\u2029\u0085\v", "\ufffd", "e\u0301", "\ufffc",
		"\xff", "ab\xc3", "\xed\xa0\x80", "\xc0\x8a", "\xf4\x90\x80\x80",
		repeated("k", 64), repeated("k", 65), repeated("\u00e9", 32), repeated("\u00e9", 33), repeated("\u20ac", 21), repeated("\u20ac", 22),
		repeated("k", 63) + "\xff", repeated("k", 64) + "\xff",
	}
	plains = []api.Plain{
		{}, flag(0), flag(1), number(0), number(-5), words(""), words("u\n"),
		flag(2), words("\xff"), {Kind: 9}, {Kind: -1}, {Number: 1}, {Text: "x"}, {Kind: api.KindText, Number: 1, Text: "x"},
	}
	counts = []int{0, 1, -1, math.MinInt, math.MaxInt}
	lists  = [][]api.Attr{
		nil, {}, pairs(num("b", 1)), pairs(num("b", 1), num("c", 2)), pairs(api.Attr{Key: "b", Value: words("\n")}),
		pairs(api.Attr{Key: "b"}), pairs(num("c", 1), num("b", 1)), pairs(num("b", 1), num("b", 1)), pairs(num("", 1)), pairs(num("\xff", 1)),
		pairs(num(repeated("k", 65), 1)), pairs(api.Attr{Key: "b", Value: flag(2)}), pairs(api.Attr{Key: "b", Value: words("\xff")}),
		pairs(api.Attr{Key: "b"}, num("", 1)), pairs(num("b", 1), num("a", 1), num("", 1)),
	}
)

// eachOp goes over all of the kinds, texts, values, counts and lists together.
func eachOp(visit func(op api.Op)) {
	for _, kind := range kinds {
		for _, s := range texts {
			for _, value := range plains {
				for _, count := range counts {
					for _, list := range lists {
						visit(api.Op{Kind: kind, Text: s, Value: value, Count: count, Attrs: list})
					}
				}
			}
		}
	}
}

// longOps have texts about the bounds, which hold for embeds' values, but not for inserted texts.
func longOps() []api.Op {
	var all []api.Op
	for _, s := range []string{
		repeated("a", api.MaxText), repeated("a", api.MaxText+1), repeated("\u00e9\n", api.MaxText/2), repeated("a", api.MaxText) + "\xff",
	} {
		all = append(all, text(s, nil), embed("x", words(s), bold()), embed(s, words(s), nil))
	}
	long := pairs(api.Attr{Key: "b", Value: words(repeated("a", api.MaxText))})
	longer := pairs(api.Attr{Key: "b", Value: words(repeated("a", api.MaxText+1))})
	return append(all, text("ab", long), text("ab", longer), embed("x", number(1), long), embed("x", words("\xff"), longer))
}

// inserts are good ones, whose sets are often the same.
func inserts() []api.Op {
	var all []api.Op
	for _, set := range [][]api.Attr{nil, {}, bold(), pairs(api.Attr{Key: "bold", Value: number(1)}), pairs(num("a", 1), num("b", 2)), pairs(num("a", 1)), pairs(num("b", 2))} {
		for _, s := range []string{"a", "\n", "ab\n", "a\u00e9\u20ac\U0001f600", "\n\n\n", "image"} {
			all = append(all, text(s, set))
		}
		all = append(all, embed("image", api.Plain{}, set), embed("image", words("\n"), set), embed("\n", number(1), set), embed("a", flag(0), set))
	}
	return all
}

// oddOps are the inserts, and one operation for each kind of fault.
func oddOps() []api.Op {
	return append(inserts(),
		api.Op{}, api.Op{Kind: api.OpRetain, Count: 1}, api.Op{Kind: api.OpDelete, Count: 1}, text("", nil), embed("", flag(1), nil),
		text("\xff", nil), embed("x", flag(2), nil), embed("x", words("\xff"), nil), text("a", pairs(api.Attr{Key: "b"})),
		text("a", pairs(num("b", 1), num("a", 1))), api.Op{Kind: api.OpText, Text: "a", Count: 1}, embed(repeated("k", 65), flag(1), nil),
	)
}

// P4.1: every call answers what is told.

// compareOne holds every call of one operation against the model.
func compareOne(t *testing.T, op api.Op) {
	t.Helper()
	want := fault(op)
	var list []api.Cell
	newlines := 0
	if want == nil {
		list = cells(op)
	}
	for _, cell := range list {
		if cell.Rune == 10 {
			newlines++
		}
	}
	if n, err := content.Length(op); n != len(list) || err != want {
		t.Fatalf("Length(%s) = %d, %v, not %d, %v", short(op), n, err, len(list), want)
	}
	if n, err := content.Newlines(op); n != newlines || err != want {
		t.Fatalf("Newlines(%s) = %d, %v, not %d, %v", short(op), n, err, newlines, want)
	}
	if got, err := content.Cells(op); !sameCells(got, list) || err != want {
		t.Fatalf("Cells(%s) = %.200v, %v, not %v", short(op), got, err, want)
	}
	comparePiece(t, op, want)
}

// comparePiece holds Of against the fields that the chapter tells.
func comparePiece(t *testing.T, op api.Op, want error) {
	t.Helper()
	piece, err := content.Of(op)
	if err != want || (piece == nil) != (want != nil) {
		t.Fatalf("Of(%s) = %.200v, %v, not %v", short(op), piece, err, want)
	}
	switch piece := piece.(type) {
	case nil:
	case api.Insert:
		if op.Kind != api.OpText || piece.Text != op.Text || piece.Length != utf8.RuneCountInString(op.Text) || !samePairs(piece.Attrs, op.Attrs) {
			t.Fatalf("Of(%s) = %.200v", short(op), piece)
		}
	case api.Embed:
		if op.Kind != api.OpEmbed || piece.Kind != op.Text || !samePairs(piece.Attrs, op.Attrs) {
			t.Fatalf("Of(%s) = %.200v", short(op), piece)
		}
		if value, err := values.Of(op.Value); piece.Value != value || err != nil {
			t.Fatalf("Of(%s) has the value %.200v", short(op), piece.Value)
		}
	default:
		t.Fatalf("Of(%s) is a %T", short(op), piece)
	}
}

func TestP4_1OddOperations(t *testing.T) {
	eachOp(func(op api.Op) { compareOne(t, op) })
}

func TestP4_1LongOperations(t *testing.T) {
	for _, op := range longOps() {
		compareOne(t, op)
		half := utf8.RuneCountInString(op.Text) / 2
		for _, n := range []int{0, 1, half, 2*half - 1, 2 * half, 2*half + 1} {
			compareCut(t, op, n)
		}
		compareJoin(t, op, op)
	}
}

// compareCut holds a Cut against the model.
func compareCut(t *testing.T, op api.Op, n int) {
	t.Helper()
	var head, rest api.Op
	want := fault(op)
	runes := []rune(op.Text)
	if want == nil && (op.Kind != api.OpText || n < 1 || n >= len(runes)) {
		want = api.ErrRange
	}
	if want == nil {
		head, rest = text(string(runes[:n]), op.Attrs), text(string(runes[n:]), op.Attrs)
	}
	a, b, err := content.Cut(op, n)
	if !sameOp(a, head) || !sameOp(b, rest) || err != want {
		t.Fatalf("Cut(%s, %d) = %s, %s, %v, not %s, %s, %v", short(op), n, short(a), short(b), err, short(head), short(rest), want)
	}
}

func TestP4_1Cut(t *testing.T) {
	places := []int{math.MinInt, -1 << 32, -2, -1, 0, 1, 2, 3, 4, 5, 6, 7, 21, 22, 31, 32, 33, 63, 64, 65, 1 << 32, 1<<32 + 1, math.MaxInt}
	for _, op := range oddOps() {
		for _, n := range places {
			compareCut(t, op, n)
		}
	}
	for _, s := range texts {
		for _, list := range lists {
			for _, n := range places {
				compareCut(t, text(s, list), n)
				compareCut(t, embed(s, number(1), list), n)
			}
		}
	}
}

// A refused operation is told ahead of a wrong place.
func TestP4_1CutOfEveryFault(t *testing.T) {
	eachOp(func(op api.Op) {
		for _, n := range []int{0, 1, 1 << 20} {
			compareCut(t, op, n)
		}
	})
}

// compareJoin holds a Join against the model.
func compareJoin(t *testing.T, a, b api.Op) {
	t.Helper()
	want := fault(a)
	if want == nil {
		want = fault(b)
	}
	var whole api.Op
	joined := want == nil && a.Kind == api.OpText && b.Kind == api.OpText && samePairs(a.Attrs, b.Attrs)
	if joined {
		whole = text(a.Text+b.Text, a.Attrs)
	}
	if got, is, err := content.Join(a, b); !sameOp(got, whole) || is != joined || err != want {
		t.Fatalf("Join(%s, %s) = %s, %v, %v, not %s, %v, %v", short(a), short(b), short(got), is, err, short(whole), joined, want)
	}
}

func TestP4_1Join(t *testing.T) {
	all := oddOps()
	for _, a := range all {
		for _, b := range all {
			compareJoin(t, a, b)
		}
	}
	good, other := text("a", bold()), embed("x", flag(1), nil)
	eachOp(func(op api.Op) {
		compareJoin(t, op, good)
		compareJoin(t, good, op)
		compareJoin(t, op, other)
		compareJoin(t, other, op)
		compareJoin(t, op, op)
	})
}

// Bytes that are no text for themselves aren't joined to one.
func TestP4_1JoinOfBrokenHalves(t *testing.T) {
	compareJoin(t, text("a\xc3", nil), text("\xa9b", nil))
	compareJoin(t, text("a", nil), text("\xa9b", nil))
}

func TestP4_1Same(t *testing.T) {
	var all []api.Op
	for _, kind := range []int{-1, 0, api.OpText, api.OpEmbed, api.OpRetain} {
		for _, s := range []string{"", "a", "\xff"} {
			for _, value := range []api.Plain{{}, {Kind: 9}, {Number: 1}, {Text: "x"}, {Text: "\xff"}} {
				for _, list := range lists[:9] {
					all = append(all, api.Op{Kind: kind, Text: s, Value: value, Attrs: list})
				}
			}
		}
	}
	all = append(all, api.Op{Count: 1}, api.Op{Count: -1}, api.Op{Kind: api.OpDelete, Count: 1}, api.Op{Kind: api.OpDelete, Count: 2})
	for _, a := range all {
		for _, b := range all {
			if is := content.Same(a, b); is != sameOp(a, b) {
				t.Fatalf("Same(%s, %s) = %v", short(a), short(b), is)
			}
		}
	}
}

// One field changed, and no other.
func TestP4_1SameOfOneField(t *testing.T) {
	list := pairs(num("b", 1), num("", 2), api.Attr{Key: "\xff", Value: api.Plain{Kind: 9, Number: 7, Text: "x"}})
	for _, op := range []api.Op{{}, text("a", list), embed("x", words("y"), list), {Kind: 9, Text: "\xff", Value: api.Plain{Kind: 9, Number: 7, Text: "\xff"}, Count: -3, Attrs: list}} {
		for i, change := range []func(op *api.Op){
			func(op *api.Op) { op.Kind++ },
			func(op *api.Op) { op.Text += "x" },
			func(op *api.Op) { op.Value.Kind++ },
			func(op *api.Op) { op.Value.Number++ },
			func(op *api.Op) { op.Value.Text += "x" },
			func(op *api.Op) { op.Count++ },
			func(op *api.Op) { op.Attrs = append(op.Attrs, num("z", 1)) },
			func(op *api.Op) { op.Attrs = append(op.Attrs[:0], append(pairs(num("a", 1)), op.Attrs...)...) },
		} {
			other := op
			other.Attrs = slices.Clone(op.Attrs)
			if !content.Same(op, other) || !content.Same(other, op) {
				t.Errorf("%s isn't the same as itself", short(op))
			}
			change(&other)
			if content.Same(op, other) || content.Same(other, op) {
				t.Errorf("change %d: %s and %s are the same", i, short(op), short(other))
			}
		}
	}
	for i := range list {
		for _, change := range []func(pair *api.Attr){
			func(pair *api.Attr) { pair.Key += "x" },
			func(pair *api.Attr) { pair.Value.Kind++ },
			func(pair *api.Attr) { pair.Value.Number++ },
			func(pair *api.Attr) { pair.Value.Text += "x" },
		} {
			other := slices.Clone(list)
			change(&other[i])
			if content.Same(text("a", list), text("a", other)) {
				t.Errorf("sets that differ in pair %d are the same", i)
			}
		}
	}
	if !content.Same(text("a", nil), text("a", pairs())) {
		t.Error("nil and empty attributes aren't the same")
	}
}

func TestP4_1ExamplesOfRefusals(t *testing.T) {
	for i, x := range []struct {
		op   api.Op
		want error
	}{
		{api.Op{Kind: api.OpRetain, Count: 1}, api.ErrKind}, {api.Op{Kind: api.OpDelete, Count: 1}, api.ErrKind}, {api.Op{}, api.ErrKind},
		{text("", nil), api.ErrOp}, {api.Op{Kind: api.OpText, Text: "a", Count: 1}, api.ErrOp}, {api.Op{Kind: api.OpText, Text: "a", Value: flag(0)}, api.ErrOp},
		{api.Op{Kind: api.OpEmbed, Text: "a", Count: -1}, api.ErrOp}, {api.Op{Kind: api.OpText, Text: "a", Value: number(0)}, api.ErrOp},
		{text("\xff", nil), api.ErrUtf8}, {embed("", api.Plain{}, nil), api.ErrKey}, {embed(repeated("k", 64), api.Plain{}, nil), nil},
		{embed(repeated("k", 65), api.Plain{}, nil), api.ErrKey}, {embed("\xff", api.Plain{}, nil), api.ErrUtf8},
		{embed("x", api.Plain{Kind: 9}, nil), api.ErrKind}, {embed("x", words("\xff"), nil), api.ErrUtf8}, {embed("x", words(repeated("a", api.MaxText+1)), nil), api.ErrLimit},
		{text("a", pairs(api.Attr{Key: "b"})), api.ErrNull}, {text(repeated("k", 65), nil), nil}, {text(repeated("a", api.MaxText+1), nil), nil},
		// Of several faults the first that the chapter names.
		{api.Op{Kind: 9, Count: 1, Text: "\xff"}, api.ErrKind}, {api.Op{Kind: api.OpEmbed, Count: 1}, api.ErrOp}, {api.Op{Kind: api.OpText, Text: "\xff", Value: flag(2)}, api.ErrOp},
		{embed(repeated("\xff", 65), flag(2), nil), api.ErrKey}, {embed("\xff", flag(2), pairs(num("", 1))), api.ErrUtf8}, {embed("x", flag(2), pairs(num("", 1))), api.ErrKind},
		{text("\xff", pairs(num("", 1))), api.ErrUtf8}, {text("a", pairs(num("", 1), api.Attr{Key: "b"})), api.ErrKey},
	} {
		if fault(x.op) != x.want {
			t.Errorf("row %d: the model tells %v of %s", i, fault(x.op), short(x.op))
		}
		compareOne(t, x.op)
	}
}

func TestP4_1Examples(t *testing.T) {
	if piece, err := content.Of(text("ab", nil)); err != nil || piece.(api.Insert).Len() != 2 {
		t.Errorf("Of = %v, %v", piece, err)
	}
	piece, err := content.Of(embed("image", api.Plain{}, nil))
	if e, is := piece.(api.Embed); err != nil || !is || e.Len() != 1 || e.Value != api.Value(api.Null{}) || e.Kind != "image" {
		t.Errorf("Of = %v, %v", piece, err)
	}
	cut := text("a\u00e9\u20ac", nil)
	if a, b, err := content.Cut(cut, 2); a.Text != "a\u00e9" || b.Text != "\u20ac" || err != nil {
		t.Errorf("Cut = %v, %v, %v", a, b, err)
	}
	for _, n := range []int{0, 3} {
		if a, b, err := content.Cut(cut, n); !isEmpty(a) || !isEmpty(b) || err != api.ErrRange {
			t.Errorf("Cut behind %d = %v, %v, %v", n, a, b, err)
		}
	}
	if a, b, err := content.Cut(embed("image", api.Plain{}, nil), 1); !isEmpty(a) || !isEmpty(b) || err != api.ErrRange {
		t.Errorf("Cut of an embed = %v, %v, %v", a, b, err)
	}
	if whole, is, err := content.Join(text("a", bold()), text("b", bold())); !sameOp(whole, text("ab", bold())) || !is || err != nil {
		t.Errorf("Join = %v, %v, %v", whole, is, err)
	}
	if whole, is, err := content.Join(text("a", nil), text("b", bold())); !isEmpty(whole) || is || err != nil {
		t.Errorf("Join = %v, %v, %v", whole, is, err)
	}
}

// P4.2: the pieces of a Cut, joined again.

// cellsOf are the cells that the package answers.
func cellsOf(t *testing.T, op api.Op) []api.Cell {
	t.Helper()
	list, err := content.Cells(op)
	if err != nil {
		t.Fatalf("Cells(%s): %v", short(op), err)
	}
	return list
}

func TestP4_2CutAndJoined(t *testing.T) {
	for _, op := range inserts() {
		whole := cellsOf(t, op)
		for n := 1; n < len(whole); n++ {
			a, b, err := content.Cut(op, n)
			if err != nil {
				t.Fatalf("Cut(%s, %d): %v", short(op), n, err)
			}
			if back, is, err := content.Join(a, b); !is || err != nil || !content.Same(back, op) || !sameOp(back, op) {
				t.Fatalf("Join of Cut(%s, %d) = %s, %v, %v", short(op), n, short(back), is, err)
			}
			first, others := cellsOf(t, a), cellsOf(t, b)
			if len(first) != n || len(others) != len(whole)-n || !sameCells(slices.Concat(first, others), whole) {
				t.Fatalf("the Cells of Cut(%s, %d) are %v and %v", short(op), n, first, others)
			}
		}
	}
}

// P4.3: Join is Cells one behind the other.

func TestP4_3JoinIsCells(t *testing.T) {
	all := inserts()
	for _, a := range all {
		for _, b := range all {
			whole, is, err := content.Join(a, b)
			if err != nil {
				t.Fatalf("Join(%s, %s): %v", short(a), short(b), err)
			}
			if is && !sameCells(cellsOf(t, whole), slices.Concat(cellsOf(t, a), cellsOf(t, b))) {
				t.Fatalf("Join(%s, %s) = %s", short(a), short(b), short(whole))
			}
			if is && (a.Kind == api.OpEmbed || b.Kind == api.OpEmbed) {
				t.Fatalf("an embed is joined: %s, %s", short(a), short(b))
			}
		}
	}
}

// joined is the Join of the answer of another one.
func joined(t *testing.T, a api.Op, aIs bool, b api.Op, bIs bool) (api.Op, bool) {
	t.Helper()
	if !aIs || !bIs {
		return api.Op{}, false
	}
	whole, is, err := content.Join(a, b)
	if err != nil {
		t.Fatalf("Join(%s, %s): %v", short(a), short(b), err)
	}
	return whole, is
}

func TestP4_3FromLeftAndFromRight(t *testing.T) {
	all := inserts()
	for _, a := range all {
		for _, b := range all {
			ab, abIs := joined(t, a, true, b, true)
			for _, c := range all {
				bc, bcIs := joined(t, b, true, c, true)
				left, leftIs := joined(t, ab, abIs, c, true)
				right, rightIs := joined(t, a, true, bc, bcIs)
				if leftIs != rightIs || !sameOp(left, right) {
					t.Fatalf("%s, %s, %s: %s and %s", short(a), short(b), short(c), short(left), short(right))
				}
			}
		}
	}
}

// P4.4: what Of answers.

func TestP4_4Pieces(t *testing.T) {
	for _, op := range inserts() {
		piece, err := content.Of(op)
		if err != nil || piece == nil {
			t.Fatalf("Of(%s) = %v, %v", short(op), piece, err)
		}
		if n, err := content.Length(op); piece.Len() != n || err != nil {
			t.Errorf("Of(%s) has the length %d, not %d, %v", short(op), piece.Len(), n, err)
		}
		if !content.Same(piece.Op(), op) {
			t.Errorf("the Op of Of(%s) is %s", short(op), short(piece.Op()))
		}
		_, isText := piece.(api.Insert)
		_, isEmbed := piece.(api.Embed)
		if isText != (op.Kind == api.OpText) || isEmbed == isText {
			t.Errorf("Of(%s) is a %T", short(op), piece)
		}
		if bearer, is := piece.(api.Bearer); !is || !samePairs(bearer.Attributes(), op.Attrs) {
			t.Errorf("Of(%s) doesn't bear its attributes", short(op))
		}
	}
}

// Beside an error the piece is a nil interface, not a piece without anything.
func TestP4_4NoPiece(t *testing.T) {
	eachOp(func(op api.Op) {
		if piece, err := content.Of(op); (piece == nil) != (err != nil) {
			t.Fatalf("Of(%s) = %v, %v", short(op), piece, err)
		}
	})
}

// The rules (P1): what is handed in isn't changed nor kept, answers are new memory.

// answers are the operations, cells and pieces that the calls answer of two texts with the same set and an embed, as lists of attributes.
func answers(t *testing.T, a, b, e api.Op) [][]api.Attr {
	t.Helper()
	head, rest, err := content.Cut(a, 1)
	whole, _, joinErr := content.Join(a, b)
	one, oneErr := content.Of(a)
	two, twoErr := content.Of(e)
	if err != nil || joinErr != nil || oneErr != nil || twoErr != nil {
		t.Fatal(err, joinErr, oneErr, twoErr)
	}
	all := [][]api.Attr{head.Attrs, rest.Attrs, whole.Attrs, one.(api.Insert).Attrs, two.(api.Embed).Attrs}
	for _, op := range []api.Op{a, e} {
		for _, cell := range cellsOf(t, op) {
			all = append(all, cell.Attrs)
		}
	}
	return all
}

func TestListsAreNewMemory(t *testing.T) {
	room := pairs(num("a", 1), num("b", 2), num("\xff", 3), num("", 4))
	before := slices.Clone(room)
	set := before[:2:2]
	a, b, e := text("abc", room[:2]), text("d", room[:2]), embed("x", words("y"), room[:2])
	for i := range answers(t, a, b, e) {
		all, later := answers(t, a, b, e), answers(t, a, b, e)
		clear(all[i][:cap(all[i])])
		for j := range all {
			if j != i && !slices.Equal(all[j], set) || !slices.Equal(later[j], set) {
				t.Fatalf("a write into list %d is seen in list %d", i, j)
			}
		}
		if !slices.Equal(room, before) {
			t.Fatalf("a write into list %d is seen in the arguments", i)
		}
		clear(room)
		for j := range later {
			if !slices.Equal(later[j], set) {
				t.Fatalf("a write into the arguments is seen in list %d", j)
			}
		}
		copy(room, before)
	}
	list := cellsOf(t, a)
	clear(list[:cap(list)])
	if !sameCells(cellsOf(t, a), cells(a)) {
		t.Error("a write into the cells is seen in later ones")
	}
}

// The spare room behind one list of an answer is no other list's.
func TestSpareRoomIsOwn(t *testing.T) {
	a := text("abcdefgh", pairs(num("a", 1), num("b", 2), num("c", 3)))
	list := cellsOf(t, a)
	for i := range list {
		_ = append(list[i].Attrs[:len(list[i].Attrs)], num("z", 9), num("zz", 9))
	}
	if !sameCells(list, cells(a)) {
		t.Errorf("Cells share their spare room: %v", list)
	}
	head, rest, err := content.Cut(a, 3)
	_ = append(head.Attrs, num("z", 9))
	_ = append(rest.Attrs, num("z", 9))
	if err != nil || !samePairs(head.Attrs, a.Attrs) || !samePairs(rest.Attrs, a.Attrs) {
		t.Errorf("Cut shares its spare room: %v, %v, %v", head, rest, err)
	}
}

// within tells whether the bytes of s lie in those of a whole.
func within(s, whole string) bool {
	at, from := uintptr(unsafe.Pointer(unsafe.StringData(s))), uintptr(unsafe.Pointer(unsafe.StringData(whole)))
	return s != "" && at >= from && at < from+uintptr(len(whole))
}

// textsOf are all texts of an operation.
func textsOf(op api.Op) []string {
	all := []string{op.Text, op.Value.Text}
	for _, pair := range op.Attrs {
		all = append(all, pair.Key, pair.Value.Text)
	}
	return all
}

func TestTextsAreNewMemory(t *testing.T) {
	set := pairs(api.Attr{Key: repeated("k", 40), Value: words(repeated("v", 40))})
	a, b, e := text(repeated("a", 40), set), text(repeated("b", 40), set), embed(repeated("x", 40), words(repeated("y", 40)), set)
	head, rest, err := content.Cut(a, 7)
	whole, _, joinErr := content.Join(a, b)
	one, oneErr := content.Of(a)
	two, twoErr := content.Of(e)
	if err != nil || joinErr != nil || oneErr != nil || twoErr != nil {
		t.Fatal(err, joinErr, oneErr, twoErr)
	}
	answered := []api.Op{head, rest, whole, one.Op(), two.Op()}
	for _, op := range []api.Op{a, e} {
		for _, cell := range cellsOf(t, op) {
			answered = append(answered, embed(cell.Kind, cell.Value, cell.Attrs))
		}
	}
	for i, op := range answered {
		for _, s := range textsOf(op) {
			for _, given := range slices.Concat(textsOf(a), textsOf(b), textsOf(e)) {
				if within(s, given) {
					t.Errorf("answer %d has %.20q in memory of an argument", i, s)
				}
			}
		}
	}
}

// One operation in both places is read twice, and written never.
func TestOneOperationTwice(t *testing.T) {
	op := text("ab", pairs(num("a", 1)))
	compareJoin(t, op, op)
	if !content.Same(op, op) || !sameOp(op, text("ab", pairs(num("a", 1)))) {
		t.Errorf("Join changed its argument: %s", short(op))
	}
}

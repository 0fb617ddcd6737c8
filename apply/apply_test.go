package apply_test

import (
	"fmt"
	"maps"
	"math/rand"
	"runtime"
	"slices"
	"strings"
	"testing"
	"unsafe"

	"vellum/api"
	"vellum/apply"
	"vellum/build"
	"vellum/cells"
	"vellum/measure"
	"vellum/ops"
)

const most = api.MaxLength

func words(s string) api.Plain        { return api.Plain{Kind: api.KindText, Text: s} }
func null(key string) api.Attr        { return api.Attr{Key: key} }
func repeated(s string, n int) string { return strings.Repeat(s, n) }
func of(list ...api.Op) []api.Op      { return list }

func num(key string, n int64) api.Attr {
	return api.Attr{Key: key, Value: api.Plain{Kind: api.KindNumber, Number: n}}
}

var bold = api.Attr{Key: "bold", Value: api.Plain{Kind: api.KindFlag, Number: 1}}

func text(s string, set ...api.Attr) api.Op { return api.Op{Kind: api.OpText, Text: s, Attrs: set} }
func del(n int) api.Op                      { return api.Op{Kind: api.OpDelete, Count: n} }

func retain(n int, patch ...api.Attr) api.Op {
	return api.Op{Kind: api.OpRetain, Count: n, Attrs: patch}
}

func embed(kind string, value api.Plain, set ...api.Attr) api.Op {
	return api.Op{Kind: api.OpEmbed, Text: kind, Value: value, Attrs: set}
}

// short tells of operations without the whole of long texts.
func short(list ...api.Op) string {
	var all strings.Builder
	for _, op := range list {
		fmt.Fprintf(&all, "{%d %.30q(%d) %.40v %d %.200v}", op.Kind, op.Text, len(op.Text), op.Value, op.Count, op.Attrs)
	}
	return all.String()
}

// told is a delta, or its lack, for a fault's words.
func told(d *build.Delta) string {
	if d == nil {
		return "no delta"
	}
	return short(d.Ops()...)
}

// The model: documents as cells, an edit done to them cell by cell as the section Deltas tells.

func isInsert(op api.Op) bool { return op.Kind == api.OpText || op.Kind == api.OpEmbed }

// isDocument tells whether there are inserts alone.
func isDocument(list []api.Op) bool {
	return !slices.ContainsFunc(list, func(op api.Op) bool { return !isInsert(op) })
}

// base is how many cells there must be ahead of an edit.
func base(list []api.Op) int {
	n := 0
	for _, op := range list {
		n += op.Count
	}
	return n
}

// read are the cells that inserts make.
func read(list ...api.Op) []api.Cell {
	var all []api.Cell
	for _, op := range list {
		if op.Kind == api.OpEmbed {
			all = append(all, api.Cell{Rune: -1, Kind: op.Text, Value: op.Value, Attrs: op.Attrs})
			continue
		}
		for _, r := range op.Text {
			all = append(all, api.Cell{Rune: r, Attrs: op.Attrs})
		}
	}
	return all
}

// patched is a set under a patch: key by key, in whatever order, sorted in the end.
func patched(set, patch []api.Attr) []api.Attr {
	all := map[string]api.Plain{}
	for _, pair := range slices.Concat(set, patch) {
		all[pair.Key] = pair.Value
	}
	var list []api.Attr
	for _, key := range slices.Sorted(maps.Keys(all)) {
		if all[key].Kind != api.KindNull {
			list = append(list, api.Attr{Key: key, Value: all[key]})
		}
	}
	return list
}

// outcome is what an edit comes to: the cells ahead of it and behind it, where those that stay stood and where they stand, and whether all is as it was; or an error.
type outcome struct {
	first, cells  []api.Cell
	ahead, behind []int
	same          bool
	fault         error
}

// keep puts a cell behind, under a patch.
func (o *outcome) keep(at int, patch []api.Attr) {
	c := o.first[at]
	c.Attrs = patched(c.Attrs, patch)
	o.ahead, o.behind = append(o.ahead, at), append(o.behind, len(o.cells))
	o.cells = append(o.cells, c)
}

// edited is what the edit of operations makes of a document.
func edited(doc, a []api.Op) outcome {
	if !isDocument(doc) {
		return outcome{fault: api.ErrOp}
	}
	o := outcome{first: read(doc...)}
	if base(a) > len(o.first) {
		return outcome{fault: api.ErrRange}
	}
	at := 0
	for _, op := range a {
		for range op.Count {
			if op.Kind == api.OpRetain {
				o.keep(at, op.Attrs)
			}
			at++
		}
		if isInsert(op) {
			o.cells = append(o.cells, read(op)...)
		}
	}
	for ; at < len(o.first); at++ {
		o.keep(at, nil)
	}
	o.same = sameCells(o.cells, o.first)
	return o
}

func likeCell(a, b api.Cell) bool {
	return a.Rune == b.Rune && a.Kind == b.Kind && a.Value == b.Value
}

func sameCells(a, b []api.Cell) bool {
	return slices.EqualFunc(a, b, func(a, b api.Cell) bool { return likeCell(a, b) && slices.Equal(a.Attrs, b.Attrs) })
}

// written are the operations that make cells: texts as long as they can be.
func written(list []api.Cell) []api.Op {
	var all []api.Op
	for i, c := range list {
		switch {
		case c.Rune == -1:
			all = append(all, embed(c.Kind, c.Value, c.Attrs...))
		case i > 0 && list[i-1].Rune != -1 && slices.Equal(list[i-1].Attrs, c.Attrs):
			all[len(all)-1].Text += string(c.Rune)
		default:
			all = append(all, text(string(c.Rune), c.Attrs...))
		}
	}
	return all
}

// The operations that are gone through.

// inserts are those of few that make cells: they may and may not be joined.
func inserts() []api.Op {
	return of(
		text("a"), text("\u00e9\u20ac\U0001f600\n"), text("ab", bold), text("\U0010ffff\x00c", num("bold", 1)), text("b", bold, num("c", 1)),
		embed("a", api.Plain{}), embed("\u00e9b", words("xyz"), bold),
	)
}

// edits are operations that keep cells or take them away.
func edits() []api.Op {
	return of(
		retain(1), retain(2), retain(1, bold), retain(2, null("bold")), retain(3, null("bold"), num("c", 1)), retain(2, num("a", 2), null("c"), null("d")),
		del(1), del(2),
	)
}

// few are operations that go together in every way.
func few() []api.Op { return append(inserts(), edits()...) }

// eachList goes over all lists of at most so many of the operations.
func eachList(all []api.Op, longest int, visit func(list []api.Op)) {
	var grow func(list []api.Op)
	grow = func(list []api.Op) {
		visit(list)
		if len(list) == longest {
			return
		}
		for _, op := range all {
			grow(append(slices.Clip(list), op))
		}
	}
	grow(nil)
}

// deltas are those of all lists of at most so many of the operations, each delta once.
func deltas(all []api.Op, longest int) []*build.Delta {
	var list []*build.Delta
	eachList(all, longest, func(gathered []api.Op) {
		if d, _, err := build.Of(gathered); err == nil && ops.Same(d.Ops(), gathered) {
			list = append(list, d)
		}
	})
	return list
}

// made is the delta of operations.
func made(t *testing.T, list ...api.Op) *build.Delta {
	t.Helper()
	d, n, err := build.Of(list)
	if err != nil {
		t.Fatalf("Of(%s) = %d, %v", short(list...), n, err)
	}
	return d
}

// someDelta is the delta of up to so many of the operations, by chance.
func someDelta(t *testing.T, chance *rand.Rand, all []api.Op, longest int) *build.Delta {
	t.Helper()
	var list []api.Op
	for range chance.Intn(longest + 1) {
		list = append(list, all[chance.Intn(len(all))])
	}
	return made(t, list...)
}

// fitting goes over pairs of a document and a delta that applies to it.
func fitting(t *testing.T, visit func(doc, a *build.Delta)) {
	t.Helper()
	docs, all := deltas(inserts(), 2), deltas(few(), 2)
	for _, doc := range docs {
		for _, a := range all {
			if base(a.Ops()) <= len(read(doc.Ops()...)) {
				visit(doc, a)
			}
		}
	}
	chance := rand.New(rand.NewSource(100))
	for range 1000 {
		doc, a := someDelta(t, chance, inserts(), 40), someDelta(t, chance, few(), 30)
		if base(a.Ops()) <= len(read(doc.Ops()...)) {
			visit(doc, a)
		}
	}
}

// applied is the document behind a delta that isn't refused.
func applied(t *testing.T, doc, a *build.Delta) *build.Delta {
	t.Helper()
	behind, err := apply.Apply(doc, a)
	if behind == nil || err != nil {
		t.Fatalf("Apply(%s, %s) = %s, %v", told(doc), told(a), told(behind), err)
	}
	return behind
}

// kept are the lists of a pair that isn't refused.
func kept(t *testing.T, doc, a *build.Delta) ([]int, []int) {
	t.Helper()
	ahead, behind, err := apply.Kept(doc, a)
	if err != nil {
		t.Fatalf("Kept(%s, %s): %v", told(doc), told(a), err)
	}
	return ahead, behind
}

// listed are a document's cells.
func listed(t *testing.T, doc *build.Delta) []api.Cell {
	t.Helper()
	list, err := cells.List(doc)
	if err != nil {
		t.Fatalf("List(%s): %v", told(doc), err)
	}
	return list
}

// P10.1: every call answers what is told.

// compare holds all calls of a pair against the model.
func compare(t *testing.T, doc, a *build.Delta) {
	t.Helper()
	want := edited(doc.Ops(), a.Ops())
	pair := fmt.Sprintf("%s by %s", told(doc), told(a))
	behind, err := apply.Apply(doc, a)
	if err != want.fault || (behind == nil) != (want.fault != nil) {
		t.Fatalf("Apply of %s: %s, %v; asked is %v", pair, told(behind), err, want.fault)
	}
	if behind != nil && !ops.Same(behind.Ops(), written(want.cells)) {
		t.Fatalf("Apply of %s: %s, not %s", pair, told(behind), short(written(want.cells)...))
	}
	if fits := apply.Fits(doc, a); fits != (want.fault == nil) {
		t.Fatalf("Fits of %s: %v; asked is %v", pair, fits, want.fault)
	}
	if changes, err := apply.Changes(doc, a); err != want.fault || changes != (want.fault == nil && !want.same) {
		t.Fatalf("Changes of %s: %v, %v", pair, changes, err)
	}
	if x, y, err := apply.Kept(doc, a); err != want.fault || !slices.Equal(x, want.ahead) || !slices.Equal(y, want.behind) {
		t.Fatalf("Kept of %s: %v, %v, %v; asked is %v, %v, %v", pair, x, y, err, want.ahead, want.behind, want.fault)
	}
}

func TestP10_1Examples(t *testing.T) {
	abc := of(text("abc"))
	for _, x := range []struct {
		doc, a, want  []api.Op
		changes       bool
		ahead, behind []int
	}{
		{abc, of(retain(1), text("X"), del(1)), of(text("aXc")), true, []int{0, 2}, []int{0, 2}},
		{abc, of(retain(2, bold)), of(text("ab", bold), text("c")), true, []int{0, 1, 2}, []int{0, 1, 2}},
		{abc, of(retain(1, null("bold"))), abc, false, []int{0, 1, 2}, []int{0, 1, 2}},
		{of(text("ab")), of(retain(1), text("X", bold), del(1)), of(text("a"), text("X", bold)), true, []int{0}, []int{0}},
		// Nothing, of nothing and of something; nothing left.
		{nil, nil, nil, false, nil, nil},
		{abc, nil, abc, false, []int{0, 1, 2}, []int{0, 1, 2}},
		{nil, abc, abc, true, nil, nil},
		{abc, of(del(3)), nil, true, nil, nil},
		// A retain without attributes at the end isn't there, however long it is.
		{abc, of(del(1), retain(most-1)), of(text("bc")), true, []int{1, 2}, []int{0, 1}},
		// Ahead of the first cell, between cells, behind the last one.
		{abc, of(text("X")), of(text("Xabc")), true, []int{0, 1, 2}, []int{1, 2, 3}},
		{abc, of(retain(2), text("XY")), of(text("abXYc")), true, []int{0, 1, 2}, []int{0, 1, 4}},
		{abc, of(retain(3), text("X")), of(text("abcX")), true, []int{0, 1, 2}, []int{0, 1, 2}},
		{abc, of(text("X"), del(3)), of(text("X")), true, nil, nil},
		// Other operations that come to the same document.
		{abc, of(text("a"), del(1)), abc, false, []int{1, 2}, []int{1, 2}},
		{of(text("aa")), of(text("a"), retain(1), del(1)), of(text("aa")), false, []int{0}, []int{1}},
		{of(text("a", bold)), of(retain(1, bold)), of(text("a", bold)), false, []int{0}, []int{0}},
		{of(embed("x", words("y"))), of(embed("x", words("y")), del(1)), of(embed("x", words("y"))), false, nil, nil},
		// The same content, with other attributes.
		{of(text("a", bold)), of(text("a"), del(1)), of(text("a")), true, nil, nil},
		{of(text("a", bold)), of(retain(1, num("bold", 1))), of(text("a", num("bold", 1))), true, []int{0}, []int{0}},
		// What becomes alike is joined; a patch that goes over several operations meets each one's set.
		{of(text("a", bold), text("b")), of(retain(1, null("bold"))), of(text("ab")), true, []int{0, 1}, []int{0, 1}},
		{of(text("a"), text("b", bold), text("c")), of(retain(1), del(1)), of(text("ac")), true, []int{0, 2}, []int{0, 1}},
		{of(text("a"), text("b", num("c", 1)), embed("x", words("y"), bold)), of(retain(3, bold, null("c"))), of(text("ab", bold), embed("x", words("y"), bold)), true, []int{0, 1, 2}, []int{0, 1, 2}},
		{of(text("\u00e9\u20ac\U0001f600")), of(retain(1), del(1)), of(text("\u00e9\U0001f600")), true, []int{0, 2}, []int{0, 1}},
		// An inserted set isn't patched, and an embed inserted beside one that is like it stays alone.
		{of(text("a")), of(text("X"), retain(1, bold), text("Y")), of(text("X"), text("a", bold), text("Y")), true, []int{0}, []int{1}},
		{of(embed("x", words("y"))), of(retain(1), embed("x", words("y"))), of(embed("x", words("y")), embed("x", words("y"))), true, []int{0}, []int{0}},
	} {
		doc, a := made(t, x.doc...), made(t, x.a...)
		pair := fmt.Sprintf("%s by %s", short(x.doc...), short(x.a...))
		if behind := applied(t, doc, a); !ops.Same(behind.Ops(), x.want) || !apply.Fits(doc, a) {
			t.Errorf("%s: %s, %v", pair, told(behind), apply.Fits(doc, a))
		}
		if changes, err := apply.Changes(doc, a); changes != x.changes || err != nil {
			t.Errorf("Changes of %s: %v, %v", pair, changes, err)
		}
		if ahead, behind := kept(t, doc, a); !slices.Equal(ahead, x.ahead) || !slices.Equal(behind, x.behind) {
			t.Errorf("Kept of %s: %v, %v", pair, ahead, behind)
		}
		compare(t, doc, a)
	}
}

func TestP10_1Refused(t *testing.T) {
	abc := of(text("abc"))
	for _, x := range []struct {
		doc, a []api.Op
		want   error
	}{
		{abc, of(del(4)), api.ErrRange},
		{abc, of(retain(4, bold)), api.ErrRange},
		{abc, of(retain(4), text("X")), api.ErrRange},
		{abc, of(retain(3), del(1)), api.ErrRange},
		{abc, of(del(3), retain(1, null("bold"))), api.ErrRange},
		{abc, of(text("XYZ"), del(4)), api.ErrRange},
		{abc, of(del(most)), api.ErrRange},
		{abc, of(retain(most, bold)), api.ErrRange},
		{abc, of(retain(1<<32+1), del(1)), api.ErrRange},
		{of(embed("long", words("long"))), of(del(2)), api.ErrRange},
		{of(text("\u20ac")), of(del(2)), api.ErrRange},
		{nil, of(del(1)), api.ErrRange},
		{nil, of(retain(1, bold)), api.ErrRange},
		{nil, of(retain(1), text("a")), api.ErrRange},
		// No document, whatever would be done to it.
		{of(retain(1, bold)), nil, api.ErrOp},
		{of(retain(1), text("abc")), nil, api.ErrOp},
		{of(retain(1), text("abc")), of(del(1)), api.ErrOp},
		{of(text("abc"), del(1)), of(del(1)), api.ErrOp},
		{of(text("abc"), retain(1, null("bold"))), of(text("a")), api.ErrOp},
		{of(text("abc"), del(1)), of(del(4)), api.ErrOp},
		{of(del(most)), of(del(most)), api.ErrOp},
		{of(retain(most, bold)), of(text("a")), api.ErrOp},
		{of(retain(most-1), text("a")), of(text("a")), api.ErrOp},
	} {
		doc, a := made(t, x.doc...), made(t, x.a...)
		behind, err := apply.Apply(doc, a)
		changes, changesErr := apply.Changes(doc, a)
		before, after, keptErr := apply.Kept(doc, a)
		if err != x.want || changesErr != x.want || keptErr != x.want {
			t.Errorf("%s by %s: %v, %v, %v, not %v", short(x.doc...), short(x.a...), err, changesErr, keptErr, x.want)
		}
		if behind != nil || changes || len(before)+len(after) > 0 || apply.Fits(doc, a) {
			t.Errorf("%s by %s: %s, %v, %v, %v, %v beside an error", short(x.doc...), short(x.a...), told(behind), changes, before, after, apply.Fits(doc, a))
		}
		compare(t, doc, a)
	}
}

func TestP10_1Pairs(t *testing.T) {
	docs := deltas(inserts(), 2)
	for _, a := range deltas(few(), 2) {
		for _, doc := range docs {
			compare(t, doc, a)
		}
	}
	chance := rand.New(rand.NewSource(101))
	all := deltas(few(), 3)
	for _, doc := range deltas(inserts(), 3) {
		for range 60 {
			compare(t, doc, all[chance.Intn(len(all))])
		}
	}
}

func TestP10_1NoDocuments(t *testing.T) {
	all := deltas(few(), 2)
	for _, doc := range all {
		for _, a := range deltas(few(), 1) {
			compare(t, doc, a)
		}
	}
}

func TestP10_1ByChance(t *testing.T) {
	chance := rand.New(rand.NewSource(102))
	for range 1500 {
		compare(t, someDelta(t, chance, inserts(), 40), someDelta(t, chance, few(), 40))
	}
}

// A delta whose base length is as many cells as there are, one below it, and one above it.
func TestP10_1AboutTheEnd(t *testing.T) {
	for _, doc := range deltas(inserts(), 2) {
		n := len(read(doc.Ops()...))
		for _, count := range []int{n - 1, n, n + 1} {
			if count < 1 {
				continue
			}
			for _, last := range of(del(count), retain(count, bold), retain(count, null("bold"))) {
				compare(t, doc, made(t, last))
				compare(t, doc, made(t, last, text("X")))
				compare(t, doc, made(t, retain(count), text("X")))
			}
		}
	}
}

// P10.2: how many cells there are behind; the empty delta; the empty document.

func TestP10_2Count(t *testing.T) {
	fitting(t, func(doc, a *build.Delta) {
		behind := applied(t, doc, a)
		want := measure.Result(doc) - measure.Deleted(a) + measure.Inserted(a)
		if n := measure.Result(behind); n != want || len(listed(t, behind)) != want {
			t.Fatalf("%s by %s has %d cells, not %d", told(doc), told(a), n, want)
		}
		if !measure.Document(behind) || !ops.Canonical(behind.Ops()) {
			t.Fatalf("%s by %s: %s is no document", told(doc), told(a), told(behind))
		}
	})
}

func TestP10_2EmptyDelta(t *testing.T) {
	for _, doc := range deltas(inserts(), 3) {
		for _, empty := range []*build.Delta{build.Empty(), made(t, retain(most))} {
			if behind := applied(t, doc, empty); !build.Same(behind, doc) {
				t.Fatalf("the empty delta makes %s of %s", told(behind), told(doc))
			}
			if changes, err := apply.Changes(doc, empty); changes || err != nil {
				t.Fatalf("the empty delta changes %s: %v, %v", told(doc), changes, err)
			}
			ahead, behind := kept(t, doc, empty)
			if len(ahead) != measure.Result(doc) || !slices.Equal(ahead, behind) {
				t.Fatalf("the empty delta keeps %v of %s at %v", ahead, told(doc), behind)
			}
		}
	}
}

func TestP10_2EmptyDocument(t *testing.T) {
	for _, doc := range deltas(inserts(), 3) {
		if behind := applied(t, build.Empty(), doc); !build.Same(behind, doc) {
			t.Fatalf("%s done to the empty document is %s", told(doc), told(behind))
		}
		if changes, err := apply.Changes(build.Empty(), doc); changes != (doc.Count() > 0) || err != nil {
			t.Fatalf("Changes of the empty document by %s: %v, %v", told(doc), changes, err)
		}
	}
}

// P10.3: what is kept, and what is inserted.

// rises tells whether a list of places rises, all of them below a bound.
func rises(list []int, bound int) bool {
	last := -1
	for _, n := range list {
		if n <= last || n >= bound {
			return false
		}
		last = n
	}
	return true
}

// others are the cells that stand at none of the places.
func others(list []api.Cell, places []int) []api.Cell {
	var all []api.Cell
	for i, c := range list {
		if !slices.Contains(places, i) {
			all = append(all, c)
		}
	}
	return all
}

func TestP10_3Kept(t *testing.T) {
	fitting(t, func(doc, a *build.Delta) {
		first, last := listed(t, doc), listed(t, applied(t, doc, a))
		ahead, behind := kept(t, doc, a)
		if len(ahead) != len(behind) || !rises(ahead, len(first)) || !rises(behind, len(last)) {
			t.Fatalf("Kept of %s by %s: %v, %v", told(doc), told(a), ahead, behind)
		}
		if n := len(first) - measure.Deleted(a); len(ahead) != n {
			t.Fatalf("%s by %s keeps %d cells, not %d", told(doc), told(a), len(ahead), n)
		}
		for i := range ahead {
			if !cells.Like(first[ahead[i]], last[behind[i]]) {
				t.Fatalf("%s by %s: cell %d and cell %d behind aren't alike", told(doc), told(a), ahead[i], behind[i])
			}
		}
		var inserted []api.Cell
		for _, op := range a.Ops() {
			if isInsert(op) {
				inserted = append(inserted, read(op)...)
			}
		}
		if !sameCells(others(last, behind), inserted) {
			t.Fatalf("%s by %s: what isn't kept behind isn't what is inserted: %v", told(doc), told(a), behind)
		}
	})
}

// P10.4: done to the first cells alone.

// cut are the first k cells of a document, and the others.
func cut(t *testing.T, doc *build.Delta, k int) (*build.Delta, *build.Delta) {
	t.Helper()
	head, err := measure.Slice(doc, 0, k)
	if err != nil {
		t.Fatal(err)
	}
	rest, err := measure.Slice(doc, k, measure.Result(doc))
	if err != nil {
		t.Fatal(err)
	}
	return head, rest
}

func TestP10_4FirstCells(t *testing.T) {
	fitting(t, func(doc, a *build.Delta) {
		whole := applied(t, doc, a)
		ahead, behind := kept(t, doc, a)
		for k := measure.Base(a); k <= measure.Result(doc); k++ {
			head, rest := cut(t, doc, k)
			part := applied(t, head, a)
			both, err := measure.Concat(part, rest)
			if err != nil || !build.Same(both, whole) {
				t.Fatalf("%s by %s on %d cells: %s, %v, not %s", told(doc), told(a), k, told(both), err, told(whole))
			}
			x, y := kept(t, head, a)
			if !slices.Equal(x, ahead[:len(x)]) || !slices.Equal(y, behind[:len(y)]) || len(ahead)-len(x) != measure.Result(rest) {
				t.Fatalf("%s by %s on %d cells keeps %v at %v, on all %v at %v", told(doc), told(a), k, x, y, ahead, behind)
			}
		}
		if k := measure.Base(a) - 1; k >= 0 {
			if head, _ := cut(t, doc, k); apply.Fits(head, a) {
				t.Fatalf("%s fits %s", told(a), told(head))
			}
		}
	})
}

// The rules (P1): what is handed in isn't changed, lists are new memory, calls hang on their arguments alone.

// spoil writes into all lists that a delta answers, their spare room included.
func spoil(d *build.Delta) {
	for _, op := range d.Ops() {
		clear(op.Attrs[:cap(op.Attrs)])
	}
	for _, piece := range d.Pieces() {
		switch piece := piece.(type) {
		case api.Insert:
			clear(piece.Attrs[:cap(piece.Attrs)])
		case api.Embed:
			clear(piece.Attrs[:cap(piece.Attrs)])
		case api.Retain:
			clear(piece.Attrs[:cap(piece.Attrs)])
		}
	}
}

func TestNothingIsShared(t *testing.T) {
	a, b := num("a", 1), num("b", 2)
	pack := func() []*build.Delta {
		doc := made(t, text("abcd", a, b), embed("x", words("y"), a, b))
		edit := made(t, retain(1), text("X", a, b), embed("x", words("y"), a, b), del(1), retain(2, num("c", 1)))
		return []*build.Delta{doc, edit, applied(t, doc, edit), applied(t, doc, edit), applied(t, doc, build.Empty()), applied(t, build.Empty(), doc)}
	}
	all, want := pack(), pack()
	for i := range all {
		spoil(all[i])
		for j := range all {
			if !ops.Same(all[j].Ops(), want[j].Ops()) {
				t.Fatalf("a write into delta %d is seen in delta %d", i, j)
			}
		}
	}
}

func TestKeptIsNewMemory(t *testing.T) {
	doc, a := made(t, text("abcdef")), made(t, retain(1), text("X"), del(2))
	for i := range 4 {
		first, second := make([][]int, 2), make([][]int, 2)
		first[0], first[1] = kept(t, doc, a)
		second[0], second[1] = kept(t, doc, a)
		all := slices.Concat(first, second)
		want := [][]int{{0, 3, 4, 5}, {0, 2, 3, 4}, {0, 3, 4, 5}, {0, 2, 3, 4}}
		_ = append(all[i], -1, -1, -1)
		room := all[i][:cap(all[i])]
		for j := range room {
			room[j] = -1
		}
		for j := range all {
			if j != i && !slices.Equal(all[j], want[j]) {
				t.Fatalf("a write into list %d is seen in list %d: %v", i, j, all[j])
			}
		}
	}
}

func TestArgumentsStay(t *testing.T) {
	chance := rand.New(rand.NewSource(103))
	for range 300 {
		doc, a := someDelta(t, chance, few(), 4), someDelta(t, chance, few(), 4)
		if chance.Intn(4) > 0 {
			doc = someDelta(t, chance, inserts(), 8)
		}
		ahead, behind := doc.Ops(), a.Ops()
		for range 2 {
			compare(t, doc, a)
		}
		compare(t, doc, doc)
		if !ops.Same(doc.Ops(), ahead) || !ops.Same(a.Ops(), behind) {
			t.Fatalf("%s and %s are %s and %s now", short(ahead...), short(behind...), told(doc), told(a))
		}
	}
}

// within tells whether the bytes of s lie in those of a whole.
func within(s, whole string) bool {
	at, from := uintptr(unsafe.Pointer(unsafe.StringData(s))), uintptr(unsafe.Pointer(unsafe.StringData(whole)))
	return s != "" && at >= from && at < from+uintptr(len(whole))
}

// A small document behind a great one doesn't hold all of the great one's text.
func TestTextsAreNewMemory(t *testing.T) {
	doc := made(t, text(repeated("a", 4000)))
	small := applied(t, doc, made(t, retain(1), del(3998)))
	if s := small.Ops()[0].Text; s != "aa" || within(s, doc.Ops()[0].Text) {
		t.Errorf("%.20q lies in the text of the document ahead", s)
	}
}

// Many operations done to many cells take memory, and time, by their number and not by the square of it.
func TestManyOperations(t *testing.T) {
	const parts = 1 << 15
	edit := build.New()
	for i := range parts {
		for _, op := range of(retain(1, num("n", int64(i))), text("X"), del(1)) {
			if err := edit.Push(op); err != nil {
				t.Fatal(err)
			}
		}
	}
	many := build.New()
	for i := range parts {
		if err := many.Text("ab", []api.Attr{num("m", int64(i))}); err != nil {
			t.Fatal(err)
		}
	}
	a := edit.Delta()
	for i, doc := range []*build.Delta{made(t, text(repeated("\u20ac", 2*parts))), many.Delta()} {
		var ahead, behind runtime.MemStats
		runtime.ReadMemStats(&ahead)
		applied(t, doc, a)
		kept(t, doc, a)
		if changes, err := apply.Changes(doc, a); !changes || err != nil {
			t.Fatalf("Changes of document %d: %v, %v", i, changes, err)
		}
		runtime.ReadMemStats(&behind)
		if used := (behind.TotalAlloc - ahead.TotalAlloc) / parts; used > 1<<14 {
			t.Errorf("document %d takes %d bytes a part", i, used)
		}
		compare(t, doc, a)
	}
}

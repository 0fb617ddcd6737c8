package cells_test

import (
	"fmt"
	"math"
	"math/rand"
	"runtime"
	"slices"
	"strings"
	"testing"
	"unicode/utf8"
	"unsafe"

	"vellum/api"
	"vellum/build"
	"vellum/cells"
	"vellum/content"
	"vellum/measure"
	"vellum/ops"
)

const most = api.MaxLength

func number(n int64) api.Plain        { return api.Plain{Kind: api.KindNumber, Number: n} }
func words(s string) api.Plain        { return api.Plain{Kind: api.KindText, Text: s} }
func flag(n int64) api.Plain          { return api.Plain{Kind: api.KindFlag, Number: n} }
func null(key string) api.Attr        { return api.Attr{Key: key} }
func repeated(s string, n int) string { return strings.Repeat(s, n) }
func of(list ...api.Op) []api.Op      { return list }
func row(list ...api.Cell) []api.Cell { return list }

func pairs(list ...api.Attr) []api.Attr { return list }
func num(key string, n int64) api.Attr  { return api.Attr{Key: key, Value: number(n)} }

var bold = api.Attr{Key: "bold", Value: flag(1)}

func text(s string, set ...api.Attr) api.Op { return api.Op{Kind: api.OpText, Text: s, Attrs: set} }
func del(n int) api.Op                      { return api.Op{Kind: api.OpDelete, Count: n} }

func retain(n int, patch ...api.Attr) api.Op {
	return api.Op{Kind: api.OpRetain, Count: n, Attrs: patch}
}

func embed(kind string, value api.Plain, set ...api.Attr) api.Op {
	return api.Op{Kind: api.OpEmbed, Text: kind, Value: value, Attrs: set}
}

func scalar(r rune, set ...api.Attr) api.Cell { return api.Cell{Rune: r, Attrs: set} }

func thing(kind string, value api.Plain, set ...api.Attr) api.Cell {
	return api.Cell{Rune: -1, Kind: kind, Value: value, Attrs: set}
}

// brief tells of cells without the whole of long texts.
func brief(list ...api.Cell) string {
	var all strings.Builder
	for _, c := range list {
		fmt.Fprintf(&all, "{%x %.30q(%d) %.40v %.200v}", c.Rune, c.Kind, len(c.Kind), c.Value, c.Attrs)
	}
	return all.String()
}

// told is a delta, or its lack, for a fault's words.
func told(d *build.Delta) string {
	if d == nil {
		return "no delta"
	}
	var all strings.Builder
	for _, op := range d.Ops() {
		fmt.Fprintf(&all, "{%d %.30q(%d) %.40v %d %.200v}", op.Kind, op.Text, len(op.Text), op.Value, op.Count, op.Attrs)
	}
	return all.String()
}

// The model: cells as plain data.

func isScalar(r rune) bool {
	return r >= 0 && r <= 0x10ffff && (r < 0xd800 || r > 0xdfff)
}

// valueFault is the error of a value; nil, if it is good.
func valueFault(p api.Plain) error {
	isFlag := p.Kind == api.KindFlag && (p.Number == 0 || p.Number == 1)
	switch {
	case p.Kind < api.KindNull || p.Kind > api.KindText,
		p.Text != "" && p.Kind != api.KindText,
		p.Number != 0 && p.Kind != api.KindNumber && !isFlag:
		return api.ErrKind
	case !utf8.ValidString(p.Text):
		return api.ErrUtf8
	case len(p.Text) > api.MaxText:
		return api.ErrLimit
	}
	return nil
}

// keyFault is the error of a key, or of an embed's kind.
func keyFault(key string) error {
	switch {
	case len(key) < 1 || len(key) > api.MaxKey:
		return api.ErrKey
	case !utf8.ValidString(key):
		return api.ErrUtf8
	}
	return nil
}

// setFault is the error of attributes that are to be a set.
func setFault(list []api.Attr) error {
	for i, pair := range list {
		if err := keyFault(pair.Key); err != nil {
			return err
		}
		if err := valueFault(pair.Value); err != nil {
			return err
		}
		if pair.Value.Kind == api.KindNull {
			return api.ErrNull
		}
		if i > 0 && list[i-1].Key >= pair.Key {
			return api.ErrAttrs
		}
	}
	return nil
}

// fault is the error of a cell; nil, if it is good.
func fault(c api.Cell) error {
	if c.Rune != -1 {
		if !isScalar(c.Rune) || c.Kind != "" || !samePlain(c.Value, api.Plain{}) {
			return api.ErrKind
		}
		return setFault(c.Attrs)
	}
	if err := keyFault(c.Kind); err != nil {
		return err
	}
	if err := valueFault(c.Value); err != nil {
		return err
	}
	return setFault(c.Attrs)
}

// firstFault is the error of the first cell that isn't good, and its number.
func firstFault(list []api.Cell) (int, error) {
	for i, c := range list {
		if err := fault(c); err != nil {
			return i, err
		}
	}
	return 0, nil
}

func samePlain(a, b api.Plain) bool {
	return a.Kind == b.Kind && a.Number == b.Number && a.Text == b.Text
}

func samePairs(a, b []api.Attr) bool {
	return slices.EqualFunc(a, b, func(a, b api.Attr) bool { return a.Key == b.Key && samePlain(a.Value, b.Value) })
}

func likeCell(a, b api.Cell) bool {
	return a.Rune == b.Rune && a.Kind == b.Kind && samePlain(a.Value, b.Value)
}

func sameCell(a, b api.Cell) bool { return likeCell(a, b) && samePairs(a.Attrs, b.Attrs) }

func sameCells(a, b []api.Cell) bool { return slices.EqualFunc(a, b, sameCell) }

// written are the operations that make good cells: texts as long as they can be.
func written(list []api.Cell) []api.Op {
	var all []api.Op
	for i, c := range list {
		switch {
		case c.Rune == -1:
			all = append(all, embed(c.Kind, c.Value, c.Attrs...))
		case i > 0 && list[i-1].Rune != -1 && samePairs(list[i-1].Attrs, c.Attrs):
			all[len(all)-1].Text += string(c.Rune)
		default:
			all = append(all, text(string(c.Rune), c.Attrs...))
		}
	}
	return all
}

// read are the cells that inserts make.
func read(list []api.Op) []api.Cell {
	var all []api.Cell
	for _, op := range list {
		if op.Kind == api.OpEmbed {
			all = append(all, thing(op.Text, op.Value, op.Attrs...))
			continue
		}
		for _, r := range []rune(op.Text) {
			all = append(all, scalar(r, op.Attrs...))
		}
	}
	return all
}

// isDocument tells whether there are inserts alone.
func isDocument(list []api.Op) bool {
	return !slices.ContainsFunc(list, func(op api.Op) bool { return op.Kind != api.OpText && op.Kind != api.OpEmbed })
}

// The cells and operations that are gone through.

// few are good cells, whose neighbours may and may not stand in one text.
func few() []api.Cell {
	return row(
		scalar('a'), scalar('a', bold), scalar('\n', bold, num("c", 1)), scalar('\U0001f600'), scalar('\u20ac', num("bold", 1)),
		thing("a", api.Plain{}), thing("a", words("x"), bold), thing("\u00e9b", number(1)),
	)
}

// inserts are those of some that make cells: they may and may not be joined.
func inserts() []api.Op {
	return of(
		text("a"), text("\u00e9\u20ac\U0001f600\n"), text("ab", bold), text("\U0010ffff\x00c", num("bold", 1)), text("b", bold, num("c", 1)),
		embed("a", api.Plain{}), embed("\u00e9b", words("xyz"), bold),
	)
}

// some are operations of every kind.
func some() []api.Op {
	return append(inserts(), retain(1), retain(3), retain(2, bold), retain(2, null("bold")), del(1), del(most-3))
}

// eachList goes over all lists of at most so many of the things.
func eachList[T any](all []T, longest int, visit func(list []T)) {
	var grow func(list []T)
	grow = func(list []T) {
		visit(list)
		if len(list) == longest {
			return
		}
		for _, one := range all {
			grow(append(slices.Clip(list), one))
		}
	}
	grow(nil)
}

// someList has up to so many of the things, by chance.
func someList[T any](chance *rand.Rand, all []T, longest int) []T {
	var list []T
	for range chance.Intn(longest + 1) {
		list = append(list, all[chance.Intn(len(all))])
	}
	return list
}

// made is the delta of operations.
func made(t *testing.T, list ...api.Op) *build.Delta {
	t.Helper()
	d, n, err := build.Of(list)
	if err != nil {
		t.Fatalf("operation %d: %v", n, err)
	}
	return d
}

// document is the document of good cells.
func document(t *testing.T, list []api.Cell) *build.Delta {
	t.Helper()
	doc, n, err := cells.Of(list)
	if doc == nil || n != 0 || err != nil {
		t.Fatalf("Of(%s) = %s, %d, %v", brief(list...), told(doc), n, err)
	}
	return doc
}

// listed are a document's cells.
func listed(t *testing.T, doc *build.Delta) []api.Cell {
	t.Helper()
	list, err := cells.List(doc)
	if err != nil {
		t.Fatalf("List(%s): %v", told(doc), err)
	}
	return list
}

// collected is what Each tells.
func collected(t *testing.T, doc *build.Delta) []api.Cell {
	t.Helper()
	var all []api.Cell
	for i, c := range cells.Each(doc) {
		if i != len(all) {
			t.Fatalf("cell %d of %s has the number %d", len(all), told(doc), i)
		}
		all = append(all, c)
	}
	return all
}

// P9.1: every call answers what is told.

func compareCheck(t *testing.T, c api.Cell) {
	t.Helper()
	if err := cells.Check(c); err != fault(c) {
		t.Fatalf("Check(%s) = %v, not %v", brief(c), err, fault(c))
	}
}

func compareOf(t *testing.T, list []api.Cell) {
	t.Helper()
	doc, n, err := cells.Of(list)
	at, want := firstFault(list)
	if n != at || err != want || (doc == nil) != (want != nil) {
		t.Fatalf("Of(%s) = %s, %d, %v; asked is %d, %v", brief(list...), told(doc), n, err, at, want)
	}
	if doc != nil && !ops.Same(doc.Ops(), written(list)) {
		t.Fatalf("Of(%s) = %s", brief(list...), told(doc))
	}
}

// places are numbers of cells, of the n that there are and beside them.
func places(n int) []int {
	all := []int{-1, -2, n, n + 1, most, -most, 1 << 32, -1 << 32, 1<<32 + 1, math.MaxInt, math.MaxInt - 1, math.MinInt, math.MinInt + 1}
	for i := range n {
		all = append(all, i)
	}
	return all
}

// compareTold holds List, At and Each of a delta against its operations.
func compareTold(t *testing.T, d *build.Delta) {
	t.Helper()
	var want []api.Cell
	var refused error
	if isDocument(d.Ops()) {
		want = read(d.Ops())
	} else {
		refused = api.ErrOp
	}
	list, err := cells.List(d)
	if err != refused || !sameCells(list, want) {
		t.Fatalf("List(%s) = %s, %v", told(d), brief(list...), err)
	}
	if all := collected(t, d); !sameCells(all, want) {
		t.Fatalf("Each(%s) tells %s", told(d), brief(all...))
	}
	for _, i := range places(len(want)) {
		c, err := cells.At(d, i)
		var asked api.Cell
		fault := refused
		if i >= 0 && i < len(want) {
			asked = want[i]
		} else if fault == nil {
			fault = api.ErrRange
		}
		if err != fault || !sameCell(c, asked) {
			t.Fatalf("At(%s, %d) = %s, %v", told(d), i, brief(c), err)
		}
	}
}

func TestP9_1Example(t *testing.T) {
	list := row(scalar('a'), scalar('b'), thing("image", words("x")), scalar('\n', num("list", 1)))
	doc := document(t, list)
	if want := of(text("ab"), embed("image", words("x")), text("\n", num("list", 1))); !ops.Same(doc.Ops(), want) {
		t.Fatalf("Of = %s", told(doc))
	}
	if c, err := cells.At(doc, 2); err != nil || !sameCell(c, list[2]) {
		t.Errorf("At 2: %s, %v", brief(c), err)
	}
	if c, err := cells.At(doc, 4); err != api.ErrRange || !sameCell(c, api.Cell{}) {
		t.Errorf("At 4: %s, %v", brief(c), err)
	}
	if c, err := cells.At(made(t, retain(1, num("k", 1))), 0); err != api.ErrOp || !sameCell(c, api.Cell{}) {
		t.Errorf("At of a retain: %s, %v", brief(c), err)
	}
	if !cells.Like(scalar('a'), scalar('a', bold)) || cells.Same(scalar('a'), scalar('a', bold)) {
		t.Error("a scalar with attributes and without them")
	}
}

func TestP9_1CheckExamples(t *testing.T) {
	plainA := api.Cell{Rune: 'a', Value: flag(0)}
	for _, x := range []struct {
		c   api.Cell
		err error
	}{
		{api.Cell{}, nil},
		{scalar(0), nil},
		{scalar(0xd7ff), nil},
		{scalar(0xd800), api.ErrKind},
		{scalar(0xdfff), api.ErrKind},
		{scalar(0xe000), nil},
		{scalar(0xfffd), nil},
		{scalar(0x10ffff), nil},
		{scalar(0x110000), api.ErrKind},
		{scalar(-2), api.ErrKind},
		{scalar(math.MaxInt32), api.ErrKind},
		{scalar(math.MinInt32), api.ErrKind},
		{api.Cell{Rune: 'a', Kind: "image"}, api.ErrKind},
		{api.Cell{Rune: 'a', Kind: "\xff"}, api.ErrKind},
		{plainA, api.ErrKind},
		{api.Cell{Rune: 'a', Value: api.Plain{Number: 1}}, api.ErrKind},
		{api.Cell{Rune: 'a', Value: api.Plain{Text: "x"}}, api.ErrKind},
		{thing("", api.Plain{}), api.ErrKey},
		{thing(repeated("k", api.MaxKey), api.Plain{}), nil},
		{thing(repeated("k", api.MaxKey+1), api.Plain{}), api.ErrKey},
		{thing(repeated("\u00e9", api.MaxKey/2), api.Plain{}), nil},
		{thing(repeated("\u00e9", api.MaxKey/2)+"k", api.Plain{}), api.ErrKey},
		{thing(repeated("\xff", api.MaxKey+1), api.Plain{}), api.ErrKey},
		{thing("\xff", api.Plain{}), api.ErrUtf8},
		{thing("x\xed\xa0\x80", api.Plain{}), api.ErrUtf8},
		{thing("x", flag(2)), api.ErrKind},
		{thing("x", words("\xff")), api.ErrUtf8},
		{thing("x", words(repeated("v", api.MaxText))), nil},
		{thing("x", words(repeated("v", api.MaxText+1))), api.ErrLimit},
		{scalar('a', null("k")), api.ErrNull},
		{thing("x", api.Plain{}, null("k")), api.ErrNull},
		{scalar('a', num("", 1)), api.ErrKey},
		{scalar('a', num("b", 1), num("a", 1)), api.ErrAttrs},
		{scalar('a', num("a", 1), num("a", 1)), api.ErrAttrs},
		{scalar('a', num("\xff", 1)), api.ErrUtf8},
		{scalar('a', api.Attr{Key: "k", Value: api.Plain{Kind: 9}}), api.ErrKind},
		{scalar('a', api.Attr{Key: "k", Value: words(repeated("v", api.MaxText+1))}), api.ErrLimit},
		// Of several faults the first one.
		{api.Cell{Rune: 0xd800, Attrs: pairs(null("k"))}, api.ErrKind},
		{api.Cell{Rune: 'a', Kind: "x", Attrs: pairs(null("k"))}, api.ErrKind},
		{thing("", flag(2), null("k")), api.ErrKey},
		{thing("\xff", flag(2), null("k")), api.ErrUtf8},
		{thing("x", flag(2), null("k")), api.ErrKind},
		{thing("x", words("\xff"), null("k")), api.ErrUtf8},
	} {
		if err := cells.Check(x.c); err != x.err {
			t.Errorf("Check(%s) = %v, not %v", brief(x.c), err, x.err)
		}
		compareCheck(t, x.c)
		compareOf(t, row(x.c))
	}
}

func TestP9_1CheckOfEveryRune(t *testing.T) {
	for r := rune(-70000); r < 0x120000; r++ {
		if err := cells.Check(scalar(r)); r != -1 && (err == nil) != isScalar(r) || err != fault(scalar(r)) {
			t.Fatalf("Check of %x: %v", r, err)
		}
	}
	for shift := range 32 {
		for near := rune(-2); near <= 2; near++ {
			compareCheck(t, scalar(1<<shift+near))
			compareCheck(t, scalar(-1<<shift+near))
		}
	}
}

// mixed goes over cells with all mixes of good and wrong fields.
func mixed(visit func(c api.Cell)) {
	runes := []rune{'a', 0, '\n', 0x10ffff, 0x110000, 0xd800, -1, -2, math.MinInt32}
	kinds := []string{"", "x", "\u00e9", "\xff", repeated("k", api.MaxKey), repeated("k", api.MaxKey+1)}
	values := []api.Plain{{}, {Number: 1}, {Text: "x"}, flag(0), flag(1), flag(2), number(-5), words(""), words("x"), words("\xff"), {Kind: api.KindNumber, Text: "x"}, {Kind: 4}, {Kind: -1}}
	sets := [][]api.Attr{nil, {}, pairs(bold), pairs(num("a", 1), num("b", 2)), pairs(num("b", 2), num("a", 1)), pairs(bold, bold), pairs(null("a")), pairs(bold, null("a")), pairs(num("", 1)), pairs(num("\xff", 1)), pairs(api.Attr{Key: "a", Value: flag(2)})}
	for _, r := range runes {
		for _, kind := range kinds {
			for _, value := range values {
				for _, set := range sets {
					visit(api.Cell{Rune: r, Kind: kind, Value: value, Attrs: set})
				}
			}
		}
	}
}

func TestP9_1Mixes(t *testing.T) {
	mixed(func(c api.Cell) {
		compareCheck(t, c)
		compareOf(t, row(c))
		compareOf(t, row(scalar('z'), thing("x", words("y"), bold), c, scalar('z')))
	})
}

func TestP9_1FirstFault(t *testing.T) {
	wrong := row(scalar(-2), scalar('a', null("k")), thing("", api.Plain{}), thing("\xff", api.Plain{}), scalar('a', bold, bold))
	eachList(append(wrong, few()[:3]...), 3, func(list []api.Cell) { compareOf(t, list) })
	// A wrong cell that is like the good one ahead of it but for its attributes.
	for i := range 6 {
		list := slices.Repeat(row(scalar('a', bold)), 6)
		list[i].Attrs = pairs(bold, null("c"))
		compareOf(t, list)
	}
}

func TestP9_1Of(t *testing.T) {
	compareOf(t, nil)
	compareOf(t, row())
	eachList(few(), 4, func(list []api.Cell) { compareOf(t, list) })
	chance := rand.New(rand.NewSource(91))
	for range 300 {
		compareOf(t, someList(chance, few(), 60))
	}
}

func TestP9_1Told(t *testing.T) {
	eachList(some(), 3, func(list []api.Op) {
		if d, _, err := build.Of(list); err == nil {
			compareTold(t, d)
		}
	})
	chance := rand.New(rand.NewSource(92))
	for range 100 {
		compareTold(t, made(t, someList(chance, inserts(), 40)...))
	}
}

func TestP9_1NoDocuments(t *testing.T) {
	for _, list := range [][]api.Op{
		of(del(1)), of(retain(1, bold)), of(retain(1, null("bold"))), of(text("ab"), del(1)), of(retain(1), text("ab")),
		of(text("ab"), retain(1, bold)), of(del(most)), of(retain(most, bold)), of(retain(most-1), text("a")),
	} {
		compareTold(t, made(t, list...))
	}
	// A plain retain at the end isn't there: this is a document.
	compareTold(t, made(t, text("ab"), retain(3)))
	compareTold(t, made(t, retain(3)))
}

// compareTwo holds Same and Like of two cells against the model, both ways round.
func compareTwo(t *testing.T, a, b api.Cell) {
	t.Helper()
	if cells.Same(a, b) != sameCell(a, b) || cells.Same(b, a) != sameCell(a, b) {
		t.Fatalf("Same(%s, %s) = %v, %v", brief(a), brief(b), cells.Same(a, b), cells.Same(b, a))
	}
	if cells.Like(a, b) != likeCell(a, b) || cells.Like(b, a) != likeCell(a, b) {
		t.Fatalf("Like(%s, %s) = %v, %v", brief(a), brief(b), cells.Like(a, b), cells.Like(b, a))
	}
}

func TestP9_1SameAndLike(t *testing.T) {
	all := append(few(), api.Cell{}, api.Cell{Rune: -2}, api.Cell{Rune: 0xd800, Kind: "\xff"}, scalar('a', null("k")), scalar('a', bold, bold))
	for _, a := range all {
		for _, b := range all {
			compareTwo(t, a, b)
		}
	}
}

// A cell, good or not, and it with one field another.
func TestP9_1SameOfOneField(t *testing.T) {
	mixed(func(c api.Cell) {
		compareTwo(t, c, c)
		for _, change := range []func(c *api.Cell){
			func(c *api.Cell) { c.Rune++ },
			func(c *api.Cell) { c.Kind += "x" },
			func(c *api.Cell) { c.Value.Kind++ },
			func(c *api.Cell) { c.Value.Number++ },
			func(c *api.Cell) { c.Value.Text += "x" },
			func(c *api.Cell) { c.Attrs = append(slices.Clip(c.Attrs), null("z")) },
			func(c *api.Cell) { c.Attrs = append(pairs(null("")), c.Attrs...) },
			func(c *api.Cell) { c.Attrs = c.Attrs[:len(c.Attrs)/2] },
		} {
			other := c
			change(&other)
			compareTwo(t, c, other)
		}
		for i := range c.Attrs {
			for _, change := range []func(pair *api.Attr){
				func(pair *api.Attr) { pair.Key += "x" },
				func(pair *api.Attr) { pair.Value.Kind++ },
				func(pair *api.Attr) { pair.Value.Number++ },
				func(pair *api.Attr) { pair.Value.Text += "x" },
			} {
				other := c
				other.Attrs = slices.Clone(c.Attrs)
				change(&other.Attrs[i])
				compareTwo(t, c, other)
			}
		}
	})
}

// P9.2: there and back.

func compareBack(t *testing.T, list []api.Cell) {
	t.Helper()
	doc := document(t, list)
	if again := listed(t, doc); !sameCells(again, list) {
		t.Fatalf("List(Of(%s)) = %s", brief(list...), brief(again...))
	}
	if !measure.Document(doc) || !ops.Canonical(doc.Ops()) {
		t.Fatalf("Of(%s) = %s is no document", brief(list...), told(doc))
	}
	if again := document(t, listed(t, doc)); !build.Same(again, doc) {
		t.Fatalf("Of(List(%s)) = %s", told(doc), told(again))
	}
}

func TestP9_2Cells(t *testing.T) {
	eachList(few(), 4, func(list []api.Cell) { compareBack(t, list) })
	chance := rand.New(rand.NewSource(93))
	for range 300 {
		compareBack(t, someList(chance, few(), 60))
	}
}

func TestP9_2EveryScalar(t *testing.T) {
	var list []api.Cell
	for r := rune(0); r <= 0x10ffff; r++ {
		if isScalar(r) {
			list = append(list, scalar(r))
		}
	}
	doc := document(t, list)
	if doc.Count() != 1 || !sameCells(listed(t, doc), list) {
		t.Fatalf("the scalars are %d operations, or other ones", doc.Count())
	}
}

func TestP9_2LongFields(t *testing.T) {
	long := words(repeated("\u20ac", api.MaxText/3))
	set := pairs(api.Attr{Key: repeated("k", api.MaxKey), Value: long})
	compareBack(t, row(scalar('a', set...), scalar('b', set...), thing(repeated("x", api.MaxKey), long, set...), thing("x", number(math.MinInt64))))
}

func TestP9_2Documents(t *testing.T) {
	eachList(inserts(), 4, func(list []api.Op) {
		doc := made(t, list...)
		if again := document(t, listed(t, doc)); !build.Same(again, doc) {
			t.Fatalf("Of(List(%s)) = %s", told(doc), told(again))
		}
	})
}

// Two documents are the same just if their cells are, however they were put together.
func TestP9_2SameCells(t *testing.T) {
	short := of(text("a"), text("aa"), text("a", bold), text("aa", bold), embed("a", api.Plain{}))
	var all []*build.Delta
	eachList(short, 3, func(list []api.Op) { all = append(all, made(t, list...)) })
	lists := make([][]api.Cell, len(all))
	for i, doc := range all {
		lists[i] = listed(t, doc)
	}
	for i, a := range all {
		for j, b := range all {
			same := slices.EqualFunc(lists[i], lists[j], cells.Same)
			if same != build.Same(a, b) {
				t.Fatalf("%s and %s: the cells are the same: %v, the documents: %v", told(a), told(b), same, build.Same(a, b))
			}
		}
	}
}

// P9.3: At and Each tell the elements of List.

func compareElements(t *testing.T, doc *build.Delta) {
	t.Helper()
	list := listed(t, doc)
	if n := measure.Result(doc); len(list) != n {
		t.Fatalf("%d cells of %s, whose Result is %d", len(list), told(doc), n)
	}
	if all := collected(t, doc); !sameCells(all, list) {
		t.Fatalf("Each(%s) tells %s, List %s", told(doc), brief(all...), brief(list...))
	}
	for i, want := range list {
		if c, err := cells.At(doc, i); err != nil || !sameCell(c, want) {
			t.Fatalf("At(%s, %d) = %s, %v; in List stands %s", told(doc), i, brief(c), err, brief(want))
		}
	}
	if _, err := cells.At(doc, len(list)); err != api.ErrRange {
		t.Fatalf("At(%s, %d): %v", told(doc), len(list), err)
	}
}

func TestP9_3Elements(t *testing.T) {
	eachList(inserts(), 3, func(list []api.Op) { compareElements(t, made(t, list...)) })
	chance := rand.New(rand.NewSource(94))
	for range 100 {
		compareElements(t, made(t, someList(chance, inserts(), 60)...))
	}
}

// Of a text the elements are those that layer 4 tells, too.
func TestP9_3LikeContent(t *testing.T) {
	for _, op := range inserts() {
		want, err := content.Cells(op)
		if list := listed(t, made(t, op)); err != nil || !slices.EqualFunc(list, want, cells.Same) {
			t.Fatalf("List tells %s, layer 4 %s, %v", brief(list...), brief(want...), err)
		}
	}
}

// P9.4: one behind the other.

func compareBehind(t *testing.T, a, b []api.Cell) {
	t.Helper()
	both, err := measure.Concat(document(t, a), document(t, b))
	if whole := document(t, slices.Concat(a, b)); err != nil || !build.Same(whole, both) {
		t.Fatalf("Of both is %s, Concat of Of of each %s, %v", told(whole), told(both), err)
	}
}

func TestP9_4Behind(t *testing.T) {
	var all [][]api.Cell
	eachList(few(), 2, func(list []api.Cell) { all = append(all, list) })
	for _, a := range all {
		for _, b := range all {
			compareBehind(t, a, b)
		}
	}
	chance := rand.New(rand.NewSource(95))
	for range 300 {
		compareBehind(t, someList(chance, few(), 30), someList(chance, few(), 30))
	}
}

// The rules (P1): iterators may be stopped and gone over again; lists are new memory; arguments stay.

func TestEachAgain(t *testing.T) {
	doc := made(t, inserts()...)
	want, each := read(doc.Ops()), cells.Each(doc)
	for stop := 1; stop <= len(want); stop++ {
		n := 0
		for i, c := range each {
			if i != n || !sameCell(c, want[n]) {
				t.Fatalf("cell %d is %d, %s", n, i, brief(c))
			}
			// Another one within, which goes its own way.
			m := 0
			for i, c := range each {
				if i != m || !sameCell(c, want[m]) {
					t.Fatalf("within, cell %d is %d, %s", m, i, brief(c))
				}
				if m++; m == n {
					break
				}
			}
			if n++; n == stop {
				break
			}
		}
		if n != stop {
			t.Fatalf("%d cells ahead of stop %d", n, stop)
		}
	}
}

// lists are the lists of attributes in all that calls answer of a document.
func lists(t *testing.T, doc *build.Delta) [][]api.Attr {
	t.Helper()
	all := slices.Concat(listed(t, doc), collected(t, doc))
	for i := range measure.Result(doc) {
		c, err := cells.At(doc, i)
		if err != nil {
			t.Fatal(err)
		}
		all = append(all, c)
	}
	var sets [][]api.Attr
	for _, c := range all {
		sets = append(sets, c.Attrs)
	}
	return sets
}

func TestListsAreNewMemory(t *testing.T) {
	set := pairs(num("a", 1), num("b", 2), num("c", 3))
	list := row(scalar('a', set...), scalar('b', set...), thing("x", words("y"), set...), scalar('c', set...))
	for i := range lists(t, document(t, list)) {
		doc := document(t, list)
		all, other := lists(t, doc), lists(t, doc)
		_ = append(all[i], num("z", 9), num("zz", 9))
		clear(all[i][:cap(all[i])])
		later := lists(t, doc)
		for j := range all {
			if j != i && !samePairs(all[j], set) || !samePairs(other[j], set) || !samePairs(later[j], set) {
				t.Fatalf("a write into list %d is seen in list %d", i, j)
			}
		}
		if !ops.Same(doc.Ops(), written(list)) {
			t.Fatalf("a write into list %d is seen in the document: %s", i, told(doc))
		}
	}
	doc := document(t, list)
	first := listed(t, doc)
	clear(first[:cap(first)])
	if !sameCells(listed(t, doc), list) {
		t.Error("a write into the cells is seen in later ones")
	}
}

// What is handed in isn't changed, spare room included, and what is written into it later isn't seen.
func TestArgumentsStay(t *testing.T) {
	pack := func() ([]api.Attr, []api.Cell) {
		room := pairs(num("a", 1), num("b", 2), num("\xff", 3), num("", 4))
		return room, row(scalar('a', room[:2]...), thing("x", words("y"), room[:2]...), scalar('b', room[:1]...), scalar(-2), scalar('c', null("")))
	}
	room, cellRoom := pack()
	freshRoom, fresh := pack()
	list := cellRoom[:3]
	doc := document(t, list)
	for _, c := range cellRoom {
		compareCheck(t, c)
		compareTwo(t, c, cellRoom[0])
	}
	compareOf(t, cellRoom)
	if !samePairs(room, freshRoom) || !sameCells(cellRoom, fresh) {
		t.Fatalf("the arguments are %v, %s now", room, brief(cellRoom...))
	}
	clear(room)
	clear(cellRoom)
	if !ops.Same(doc.Ops(), written(fresh[:3])) || !sameCells(listed(t, doc), fresh[:3]) {
		t.Fatalf("a write into the arguments is seen: %s", told(doc))
	}
}

// within tells whether the bytes of s lie in those of a whole.
func within(s, whole string) bool {
	at, from := uintptr(unsafe.Pointer(unsafe.StringData(s))), uintptr(unsafe.Pointer(unsafe.StringData(whole)))
	return s != "" && at >= from && at < from+uintptr(len(whole))
}

// A document keeps no text that was handed in, which might be a piece of a longer one.
func TestTextsAreNewMemory(t *testing.T) {
	key, value, kind := repeated("k", 40), repeated("v", 40), repeated("x", 40)
	set := pairs(api.Attr{Key: key, Value: words(value)})
	for _, c := range listed(t, document(t, row(thing(kind, words(value), set...), scalar('a', set...)))) {
		for _, s := range []string{c.Kind, c.Value.Text, c.Attrs[0].Key, c.Attrs[0].Value.Text} {
			if within(s, key) || within(s, value) || within(s, kind) {
				t.Errorf("%.20q lies in memory of an argument", s)
			}
		}
	}
}

// Many cells, of a long text or of many operations, are told in memory by their number and not by the square of it.
func TestManyCells(t *testing.T) {
	const count = 1 << 16
	for name, set := range map[string]func(i int) []api.Attr{
		"one text":        func(int) []api.Attr { return nil },
		"many operations": func(i int) []api.Attr { return pairs(num("n", int64(i))) },
	} {
		var list []api.Cell
		for i := range count {
			list = append(list, scalar(0x4000+rune(i%0x8000), set(i)...))
		}
		var ahead, behind runtime.MemStats
		runtime.ReadMemStats(&ahead)
		doc := document(t, list)
		if !sameCells(listed(t, doc), list) || !sameCells(collected(t, doc), list) {
			t.Fatalf("%s: the cells are others", name)
		}
		runtime.ReadMemStats(&behind)
		if used := (behind.TotalAlloc - ahead.TotalAlloc) / count; used > 1<<13 {
			t.Errorf("%s: %d bytes a cell", name, used)
		}
		if c, err := cells.At(doc, count-1); err != nil || !sameCell(c, list[count-1]) {
			t.Errorf("%s: the last cell is %s, %v", name, brief(c), err)
		}
	}
}

// An iterator that is stopped early doesn't make the cells behind.
func TestFirstCell(t *testing.T) {
	const count = 1 << 16
	doc := made(t, text(repeated("a", count), bold))
	var ahead, behind runtime.MemStats
	runtime.ReadMemStats(&ahead)
	for i, c := range cells.Each(doc) {
		if i != 0 || !sameCell(c, scalar('a', bold)) {
			t.Errorf("the first cell is %d, %s", i, brief(c))
		}
		break
	}
	runtime.ReadMemStats(&behind)
	if used := behind.TotalAlloc - ahead.TotalAlloc; used > count {
		t.Errorf("%d bytes for the first cell", used)
	}
}

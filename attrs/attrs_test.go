package attrs_test

import (
	"fmt"
	"iter"
	"maps"
	"math"
	"slices"
	"strings"
	"testing"
	"unicode/utf8"
	"unsafe"

	"vellum/api"
	"vellum/attrs"
	"vellum/values"
)

func flag(n int64) api.Plain   { return api.Plain{Kind: api.KindFlag, Number: n} }
func number(n int64) api.Plain { return api.Plain{Kind: api.KindNumber, Number: n} }
func text(s string) api.Plain  { return api.Plain{Kind: api.KindText, Text: s} }

func num(key string, n int64) api.Attr { return api.Attr{Key: key, Value: number(n)} }
func null(key string) api.Attr         { return api.Attr{Key: key} }

func pairs(list ...api.Attr) []api.Attr { return list }

// short tells of a list without the whole of long texts.
func short(list []api.Attr) string {
	var all []string
	for _, pair := range list {
		all = append(all, fmt.Sprintf("%.20q(%d): {%d %d %.20q(%d)}", pair.Key, len(pair.Key), pair.Value.Kind, pair.Value.Number, pair.Value.Text, len(pair.Value.Text)))
	}
	return "[" + strings.Join(all, ", ") + "]"
}

// The model: lists are held as maps, apart from how the package goes through them.

// pairFault is the error of a pair for itself, as the chapter tells it.
func pairFault(pair api.Attr) error {
	n := len(pair.Key)
	if n < 1 || n > 64 {
		return api.ErrKey
	}
	if !utf8.ValidString(pair.Key) {
		return api.ErrUtf8
	}
	return values.Check(pair.Value)
}

// fault is the error that the chapter tells for a list.
func fault(list []api.Attr, nulls bool) error {
	before := ""
	for _, pair := range list {
		if err := pairFault(pair); err != nil {
			return err
		}
		if pair.Value == (api.Plain{}) && !nulls {
			return api.ErrNull
		}
		if !(pair.Key > before) {
			return api.ErrAttrs
		}
		before = pair.Key
	}
	return nil
}

// faults is the first of several errors.
func faults(all ...error) error {
	for _, err := range all {
		if err != nil {
			return err
		}
	}
	return nil
}

func asMap(list []api.Attr) map[string]api.Plain {
	m := map[string]api.Plain{}
	for _, pair := range list {
		m[pair.Key] = pair.Value
	}
	return m
}

func asList(m map[string]api.Plain) []api.Attr {
	var list []api.Attr
	for _, key := range slices.Sorted(maps.Keys(m)) {
		list = append(list, api.Attr{Key: key, Value: m[key]})
	}
	return list
}

func composed(a, b []api.Attr, nulls bool) []api.Attr {
	m := asMap(a)
	maps.Copy(m, asMap(b))
	if !nulls {
		maps.DeleteFunc(m, func(_ string, p api.Plain) bool { return p == api.Plain{} })
	}
	return asList(m)
}

// patchTo is the patch of those keys whose values in from and to aren't the same, with those of to.
func patchTo(from, to map[string]api.Plain, keys iter.Seq[string]) []api.Attr {
	m := map[string]api.Plain{}
	for key := range keys {
		old, had := from[key]
		value, has := to[key]
		if had != has || old != value {
			m[key] = value
		}
	}
	return asList(m)
}

func differing(a, b []api.Attr) []api.Attr {
	from, to := asMap(a), asMap(b)
	keys := asMap(slices.Concat(a, b))
	return patchTo(from, to, maps.Keys(keys))
}

func inverted(patch, set []api.Attr) []api.Attr {
	behind := asMap(composed(set, patch, false))
	return patchTo(behind, asMap(set), maps.Keys(asMap(patch)))
}

func transformed(a, b []api.Attr, first bool) []api.Attr {
	m := asMap(b)
	if first {
		for key := range asMap(a) {
			delete(m, key)
		}
	}
	return asList(m)
}

func same(a, b []api.Attr) bool {
	for i := range min(len(a), len(b)) {
		p, q := a[i].Value, b[i].Value
		if a[i].Key != b[i].Key || p.Kind != q.Kind || p.Number != q.Number || p.Text != q.Text {
			return false
		}
	}
	return len(a) == len(b)
}

// The lists that are gone through.

// patches are all patches of these keys, which rise, with these values.
func patches(keys []string, some []api.Plain) [][]api.Attr {
	all := [][]api.Attr{nil}
	for _, key := range keys {
		for _, list := range all {
			for _, p := range some {
				all = append(all, append(slices.Clone(list), api.Attr{Key: key, Value: p}))
			}
		}
	}
	return all
}

func sets(all [][]api.Attr) [][]api.Attr {
	return slices.DeleteFunc(slices.Clone(all), func(list []api.Attr) bool {
		return slices.ContainsFunc(list, func(p api.Attr) bool { return p.Value.Kind == api.KindNull })
	})
}

var (
	keys = []string{"a", "b", "c"}
	some = []api.Plain{{}, flag(0), number(0), text("")}
	few  = []api.Plain{{}, number(1), text("1")}
)

var (
	longest = strings.Repeat("k", api.MaxKey)
	tooLong = longest + "k"
)

// oddPairs are good and wrong in every way that a pair can be, and in several at a time.
var oddPairs = pairs(
	num("a", 1), num("b", -5), null("a"), null("b"), num("", 1), null(""), num(longest, 1), num(tooLong, 1),
	num(strings.Repeat("\u00e9", api.MaxKey/2), 1), num(strings.Repeat("\u00e9", api.MaxKey/2+1), 1),
	num("\xff", 1), num("a\xc3", 1), num("\xed\xa0\x80", 1), num(longest[1:]+"\xff", 1), num(longest+"\xff", 1), num("\u00e9", 1), num("\x00", 1),
	api.Attr{Key: "b", Value: flag(1)}, api.Attr{Key: "a", Value: flag(2)}, api.Attr{Key: "a", Value: text("x")},
	api.Attr{Key: "b", Value: text("\xff")}, api.Attr{Key: "a", Value: text(strings.Repeat("t", api.MaxText+1))},
	api.Attr{Key: "a", Value: api.Plain{Kind: 9}}, api.Attr{Key: "a", Value: api.Plain{Kind: -1}}, api.Attr{Key: "a", Value: api.Plain{Number: 1}},
	api.Attr{Key: "a", Value: api.Plain{Text: "x"}}, api.Attr{Key: "", Value: api.Plain{Kind: 9}}, api.Attr{Key: "\xff", Value: api.Plain{Kind: 9}},
)

// somePairs are good ones, whose keys meet, and one for each kind of fault.
var somePairs = pairs(
	num("a", 1), num("b", 2), null("a"), null("c"), num("c", 3),
	num("", 1), num(tooLong, 1), num("\xff", 1), api.Attr{Key: "b", Value: flag(2)}, api.Attr{Key: "b", Value: text("\xff")},
)

// eachList goes over all lists of at most so many of the pairs.
func eachList(of []api.Attr, most int, visit func(list []api.Attr)) {
	var grow func(list []api.Attr)
	grow = func(list []api.Attr) {
		visit(list)
		if len(list) == most {
			return
		}
		for _, pair := range of {
			grow(append(slices.Clone(list), pair))
		}
	}
	grow(nil)
}

// expect holds an answer against what it ought to be.
func expect(t *testing.T, what string, got []api.Attr, err error, want []api.Attr, wantErr error, args ...[]api.Attr) {
	t.Helper()
	if wantErr != nil {
		want = nil
	}
	if err == wantErr && slices.Equal(got, want) {
		return
	}
	var told []string
	for _, list := range args {
		told = append(told, short(list))
	}
	t.Fatalf("%s of %s = %s, %v, not %s, %v", what, strings.Join(told, " and "), short(got), err, short(want), wantErr)
}

// P3.1: every call answers what is told.

func compareOne(t *testing.T, list []api.Attr) {
	t.Helper()
	for _, nulls := range []bool{false, true} {
		if err := attrs.Check(list, nulls); err != fault(list, nulls) {
			t.Fatalf("Check(%s, %v) = %v, not %v", short(list), nulls, err, fault(list, nulls))
		}
	}
	var wrong error
	for _, pair := range list {
		wrong = faults(wrong, pairFault(pair))
	}
	got, err := attrs.Of(list)
	expect(t, "Of", got, err, asList(asMap(list)), wrong, list)
	compareTold(t, list)
}

// compareTold holds Get and Each against the model.
func compareTold(t *testing.T, list []api.Attr) {
	t.Helper()
	want := list
	if fault(list, true) != nil {
		want = nil
	}
	i := 0
	for key, v := range attrs.Each(list) {
		if i == len(want) || key != want[i].Key || v == nil || v.Plain() != want[i].Value {
			t.Fatalf("Each of %s tells %.20q, %.20v, as number %d", short(list), key, v, i)
		}
		i++
	}
	if i != len(want) {
		t.Fatalf("Each of %s tells %d pairs", short(list), i)
	}
	has := asMap(want)
	for _, key := range []string{"", "\x00", "a", "aa", "b", "c", "d", longest, tooLong, "\xff", "\u00e9"} {
		v, ok := attrs.Get(list, key)
		p, is := has[key]
		if ok != is || (v != nil) != is || is && v.Plain() != p {
			t.Fatalf("Get(%s, %.20q) = %.20v, %v", short(list), key, v, ok)
		}
	}
}

func compareTwo(t *testing.T, a, b []api.Attr) {
	t.Helper()
	patchA, patchB, setA, setB := fault(a, true), fault(b, true), fault(a, false), fault(b, false)
	for _, yes := range []bool{false, true} {
		got, err := attrs.Compose(a, b, yes)
		expect(t, fmt.Sprint("Compose, nulls ", yes), got, err, composed(a, b, yes), faults(patchA, patchB), a, b)
		got, err = attrs.Transform(a, b, yes)
		expect(t, fmt.Sprint("Transform, first ", yes), got, err, transformed(a, b, yes), faults(patchA, patchB), a, b)
	}
	got, err := attrs.Apply(a, b)
	expect(t, "Apply", got, err, composed(a, b, false), faults(setA, patchB), a, b)
	got, err = attrs.Diff(a, b)
	expect(t, "Diff", got, err, differing(a, b), faults(setA, setB), a, b)
	got, err = attrs.Invert(a, b)
	expect(t, "Invert", got, err, inverted(a, b), faults(patchA, setB), a, b)
	if is := attrs.Same(a, b); is != same(a, b) {
		t.Fatalf("Same of %s and %s = %v", short(a), short(b), is)
	}
}

func TestP3_1OddLists(t *testing.T) {
	eachList(oddPairs, 2, func(list []api.Attr) { compareOne(t, list) })
	eachList(somePairs, 4, func(list []api.Attr) { compareOne(t, list) })
}

func TestP3_1TwoOddLists(t *testing.T) {
	eachList(oddPairs, 1, func(a []api.Attr) {
		eachList(oddPairs, 1, func(b []api.Attr) { compareTwo(t, a, b) })
	})
	eachList(somePairs, 2, func(a []api.Attr) {
		eachList(somePairs, 2, func(b []api.Attr) { compareTwo(t, a, b) })
	})
}

func TestP3_1TwoPatches(t *testing.T) {
	all := patches(keys, some)
	for _, a := range all {
		for _, b := range all {
			compareTwo(t, a, b)
		}
	}
}

func TestP3_1ByBytes(t *testing.T) {
	rising := pairs(num("\x00", 1), num("A", 2), num("B", 3), num("a", 4), num("aB", 5), num("ab", 6), num("b", 7), num("\u00e9", 8), num("\uffff", 9), num("\U00010000", 10))
	compareOne(t, rising)
	turned := slices.Clone(rising)
	slices.Reverse(turned)
	got, err := attrs.Of(turned)
	expect(t, "Of", got, err, rising, nil, turned)
	for i := range rising {
		for j := range rising {
			two := pairs(rising[i], rising[j])
			if err := attrs.Check(two, false); (err == nil) != (i < j) || i >= j && err != api.ErrAttrs {
				t.Errorf("Check(%s) = %v", short(two), err)
			}
		}
	}
}

func TestP3_1ManyPairs(t *testing.T) {
	var even, all, turned []api.Attr
	for i := range 1000 {
		pair := num(fmt.Sprintf("%04d", i), int64(i))
		if i%2 == 0 {
			even = append(even, null(pair.Key))
		}
		all = append(all, pair)
		turned = append(turned, num(pair.Key, -1), num(all[len(all)-1-i/2].Key, math.MinInt64))
	}
	compareOne(t, all)
	compareTwo(t, all, even)
	compareTwo(t, even, all)
	// Each key many times, with others between: the last one counts.
	turned = slices.Concat(turned, turned, all)
	got, err := attrs.Of(turned)
	expect(t, "Of", got, err, all, nil)
	slices.Reverse(turned)
	got, err = attrs.Of(turned)
	expect(t, "Of", got, err, asList(asMap(turned)), nil)
	if v, ok := attrs.Get(all, "0777"); v != api.Value(api.Number(777)) || !ok {
		t.Errorf("Get = %v, %v", v, ok)
	}
}

// Same is asked of lists whatever they are.
func TestP3_1Same(t *testing.T) {
	odd := pairs(num("b", 1), num("b", 1), num("", 2), api.Attr{Key: "\xff", Value: api.Plain{Kind: 9, Number: 7, Text: "x"}})
	if !attrs.Same(odd, slices.Clone(odd)) || !attrs.Same(nil, pairs()) || !attrs.Same(pairs(), nil) {
		t.Error("the same lists aren't the same")
	}
	for i := range odd {
		for _, change := range []func(pair *api.Attr){
			func(pair *api.Attr) { pair.Key += "x" },
			func(pair *api.Attr) { pair.Value.Kind++ },
			func(pair *api.Attr) { pair.Value.Number++ },
			func(pair *api.Attr) { pair.Value.Text += "x" },
		} {
			other := slices.Clone(odd)
			change(&other[i])
			if attrs.Same(odd, other) || attrs.Same(other, odd) {
				t.Errorf("%s and %s are the same", short(odd), short(other))
			}
		}
		if attrs.Same(odd, odd[:i]) || attrs.Same(odd[:i], odd) || attrs.Same(odd, odd[len(odd)-i:]) {
			t.Errorf("a list and %d of its pairs are the same", i)
		}
	}
	if attrs.Same(pairs(num("a", 1), num("b", 1)), pairs(num("b", 1), num("a", 1))) {
		t.Error("lists in another order are the same")
	}
}

func TestP3_1Examples(t *testing.T) {
	a, b := pairs(num("a", 1), num("b", 2)), pairs(null("b"), num("c", 3))
	got, err := attrs.Compose(a, b, true)
	expect(t, "Compose", got, err, pairs(num("a", 1), null("b"), num("c", 3)), nil, a, b)
	got, err = attrs.Compose(a, b, false)
	expect(t, "Compose", got, err, pairs(num("a", 1), num("c", 3)), nil, a, b)
	got, err = attrs.Apply(a, b)
	expect(t, "Apply", got, err, pairs(num("a", 1), num("c", 3)), nil, a, b)
	b = pairs(num("b", 3), num("c", 4))
	got, err = attrs.Diff(a, b)
	expect(t, "Diff", got, err, pairs(null("a"), num("b", 3), num("c", 4)), nil, a, b)
	b = pairs(num("a", 1), null("b"), num("c", 5))
	got, err = attrs.Invert(b, a)
	expect(t, "Invert", got, err, pairs(num("b", 2), null("c")), nil, b, a)
	a, b = pairs(num("a", 1), null("b")), pairs(num("b", 2), num("c", 3))
	got, err = attrs.Transform(a, b, true)
	expect(t, "Transform", got, err, pairs(num("c", 3)), nil, a, b)
	got, err = attrs.Transform(a, b, false)
	expect(t, "Transform", got, err, pairs(num("b", 2), num("c", 3)), nil, a, b)
	a = pairs(num("b", 1), num("a", 2), num("b", 3))
	got, err = attrs.Of(a)
	expect(t, "Of", got, err, pairs(num("a", 2), num("b", 3)), nil, a)
}

func TestP3_1ExamplesOfCheck(t *testing.T) {
	for i, x := range []struct {
		list  []api.Attr
		nulls bool
		want  error
	}{
		{nil, false, nil}, {pairs(), true, nil},
		{pairs(num("b", 1), num("a", 1)), true, api.ErrAttrs}, {pairs(num("a", 1), num("a", 1)), true, api.ErrAttrs},
		{pairs(num("", 1)), true, api.ErrKey}, {pairs(num(longest, 1)), false, nil}, {pairs(num(tooLong, 1)), true, api.ErrKey},
		{pairs(null("a")), true, nil}, {pairs(null("a")), false, api.ErrNull},
		// Of one pair with several faults the first that the chapter names; of several pairs the first pair's.
		{pairs(num(longest+"\xff", 1)), true, api.ErrKey},
		{pairs(api.Attr{Key: "\xff", Value: api.Plain{Kind: 9}}), true, api.ErrUtf8},
		{pairs(num("b", 1), api.Attr{Key: "a", Value: text("\xff")}), true, api.ErrUtf8},
		{pairs(num("b", 1), null("a")), false, api.ErrNull}, {pairs(num("b", 1), null("a")), true, api.ErrAttrs},
		{pairs(num("b", 1), num("a", 1), num("", 1)), true, api.ErrAttrs}, {pairs(null("a"), num("", 1)), false, api.ErrNull},
	} {
		if err := attrs.Check(x.list, x.nulls); err != x.want {
			t.Errorf("row %d: Check(%s, %v) = %v, not %v", i, short(x.list), x.nulls, err, x.want)
		}
	}
}

// P3.2: composing is associative, and Apply follows it.

// must is an answer that isn't refused.
func must(t *testing.T) func(list []api.Attr, err error) []api.Attr {
	return func(list []api.Attr, err error) []api.Attr {
		t.Helper()
		if err != nil {
			t.Fatal(err)
		}
		return list
	}
}

func TestP3_2Compose(t *testing.T) {
	ok := must(t)
	all := patches(keys[:2], some)
	for _, a := range all {
		if !attrs.Same(ok(attrs.Compose(a, nil, true)), a) || !attrs.Same(ok(attrs.Compose(nil, a, true)), a) {
			t.Fatalf("the empty patch changes %s", short(a))
		}
		for _, b := range all {
			left := ok(attrs.Compose(a, b, true))
			for _, c := range all {
				one := ok(attrs.Compose(left, c, true))
				two := ok(attrs.Compose(a, ok(attrs.Compose(b, c, true)), true))
				if !attrs.Same(one, two) {
					t.Fatalf("%s, %s, %s: %s and %s", short(a), short(b), short(c), short(one), short(two))
				}
			}
		}
	}
}

func TestP3_2Apply(t *testing.T) {
	ok := must(t)
	all := patches(keys[:2], some)
	for _, s := range sets(all) {
		if !attrs.Same(ok(attrs.Apply(s, nil)), s) {
			t.Fatalf("the empty patch changes %s", short(s))
		}
		for _, p := range all {
			behind := ok(attrs.Apply(s, p))
			if err := attrs.Check(behind, false); err != nil {
				t.Fatalf("Apply(%s, %s) is no set: %v", short(s), short(p), err)
			}
			for _, q := range all {
				one := ok(attrs.Apply(s, ok(attrs.Compose(p, q, true))))
				two := ok(attrs.Apply(behind, q))
				if !attrs.Same(one, two) {
					t.Fatalf("%s, %s, %s: %s and %s", short(s), short(p), short(q), short(one), short(two))
				}
			}
		}
	}
}

// P3.3: there and back, by the least patches.

// none tells that no patch of all with fewer pairs than the limit leads from one set to the other.
func none(t *testing.T, all [][]api.Attr, from, to []api.Attr, limit int) {
	t.Helper()
	ok := must(t)
	for _, q := range all {
		if len(q) < limit && attrs.Same(ok(attrs.Apply(from, q)), to) {
			t.Fatalf("from %s to %s: %s has fewer pairs than %d", short(from), short(to), short(q), limit)
		}
	}
}

func TestP3_3Diff(t *testing.T) {
	ok := must(t)
	all := patches(keys, few)
	for _, a := range sets(all) {
		for _, b := range sets(all) {
			d := ok(attrs.Diff(a, b))
			if !attrs.Same(ok(attrs.Apply(a, d)), b) || attrs.Same(a, b) && len(d) > 0 {
				t.Fatalf("Diff of %s and %s = %s", short(a), short(b), short(d))
			}
			none(t, all, a, b, len(d))
		}
	}
}

func TestP3_3Invert(t *testing.T) {
	ok := must(t)
	all := patches(keys, few)
	for _, s := range sets(all) {
		for _, p := range all {
			behind := ok(attrs.Apply(s, p))
			back := ok(attrs.Invert(p, s))
			if !attrs.Same(ok(attrs.Apply(behind, back)), s) {
				t.Fatalf("Invert of %s over %s = %s", short(p), short(s), short(back))
			}
			none(t, all, behind, s, len(back))
		}
	}
}

// P3.4: both ways round.

func TestP3_4BothWaysRound(t *testing.T) {
	ok := must(t)
	all := patches(keys, some)
	for _, a := range all {
		for _, b := range all {
			one := ok(attrs.Compose(a, ok(attrs.Transform(a, b, true)), true))
			two := ok(attrs.Compose(b, ok(attrs.Transform(b, a, false)), true))
			if !attrs.Same(one, two) {
				t.Fatalf("%s and %s: %s and %s", short(a), short(b), short(one), short(two))
			}
		}
	}
}

// P3.5: Each and Get tell the same, by layer 2's Of.

func TestP3_5EachAndGet(t *testing.T) {
	for _, list := range patches(keys, []api.Plain{{}, flag(0), flag(1), number(0), number(math.MinInt64), text(""), text("null"), text("\u00e9")}) {
		i := 0
		for key, v := range attrs.Each(list) {
			want, err := values.Of(list[i].Value)
			got, ok := attrs.Get(list, key)
			if err != nil || key != list[i].Key || v != want || got != want || !ok {
				t.Fatalf("%s: Each tells %q, %v, Get %v, %v", short(list), key, v, got, ok)
			}
			i++
		}
		if i != len(list) {
			t.Fatalf("Each of %s tells %d pairs", short(list), i)
		}
	}
}

// The rules (P1): what is handed in isn't changed nor kept, answers are new memory, iterators go again.

func TestEachStopsAndGoesAgain(t *testing.T) {
	list := pairs(num("a", 1), null("b"), num("c", 3))
	each := attrs.Each(list)
	// What is written behind the call isn't told.
	copy(list, pairs(num("x", 7), num("y", 8), num("", 9)))
	for _, stop := range []int{0, 1, 2, 3, 2, 3} {
		var told []string
		for key := range each {
			if len(told) == stop {
				break
			}
			told = append(told, key)
		}
		if !slices.Equal(told, keys[:stop]) {
			t.Errorf("Each, stopped behind %d, tells %v", stop, told)
		}
	}
	var inner []api.Value
	for range each {
		for _, v := range each {
			inner = append(inner, v)
		}
	}
	one := []api.Value{api.Number(1), api.Null{}, api.Number(3)}
	if !slices.Equal(inner, slices.Concat(one, one, one)) {
		t.Errorf("Each within Each tells %v", inner)
	}
}

func TestEachOfWrongListsStays(t *testing.T) {
	for _, list := range [][]api.Attr{nil, pairs(), pairs(num("", 1)), pairs(num("a", 1), num("a", 2)), pairs(num("a", 1), num("b", 2), api.Attr{Key: "c", Value: flag(2)})} {
		each := attrs.Each(list)
		if each == nil {
			t.Fatalf("Each of %s is nil", short(list))
		}
		if len(list) > 0 {
			list[len(list)-1] = num("z", 1)
		}
		for key, v := range each {
			t.Errorf("Each tells %q, %v of no patch", key, v)
		}
	}
}

// calls are those that answer lists, of two lists that are sets.
func calls() map[string]func(a, b []api.Attr) ([]api.Attr, error) {
	return map[string]func(a, b []api.Attr) ([]api.Attr, error){
		"Of":      func(a, b []api.Attr) ([]api.Attr, error) { return attrs.Of(a) },
		"Compose": func(a, b []api.Attr) ([]api.Attr, error) { return attrs.Compose(a, b, true) },
		"Compose, empty": func(a, b []api.Attr) ([]api.Attr, error) {
			return attrs.Compose(a, nil, true)
		},
		"Compose of empty": func(a, b []api.Attr) ([]api.Attr, error) {
			return attrs.Compose(nil, a, true)
		},
		"Compose, empty, nulls gone": func(a, b []api.Attr) ([]api.Attr, error) {
			return attrs.Compose(a, nil, false)
		},
		"Compose of empty, nulls gone": func(a, b []api.Attr) ([]api.Attr, error) {
			return attrs.Compose(nil, a, false)
		},
		"Apply":           func(a, b []api.Attr) ([]api.Attr, error) { return attrs.Apply(a, b) },
		"Apply of empty":  func(a, b []api.Attr) ([]api.Attr, error) { return attrs.Apply(a, nil) },
		"Diff":            func(a, b []api.Attr) ([]api.Attr, error) { return attrs.Diff(a, b) },
		"Diff from empty": func(a, b []api.Attr) ([]api.Attr, error) { return attrs.Diff(nil, b) },
		"Invert":          func(a, b []api.Attr) ([]api.Attr, error) { return attrs.Invert(a, b) },
		"Transform":       func(a, b []api.Attr) ([]api.Attr, error) { return attrs.Transform(a, b, true) },
		"Transform over empty": func(a, b []api.Attr) ([]api.Attr, error) {
			return attrs.Transform(nil, b, true)
		},
		"Apply to empty": func(a, b []api.Attr) ([]api.Attr, error) { return attrs.Apply(nil, b) },
		"Transform, second": func(a, b []api.Attr) ([]api.Attr, error) {
			return attrs.Transform(a, b, false)
		},
	}
}

func longPair(key string) api.Attr {
	return api.Attr{Key: strings.Repeat(key, 9), Value: text(strings.Repeat(key, 40))}
}

func TestListsAreNewMemory(t *testing.T) {
	roomA := pairs(longPair("a"), longPair("b"), num("\xff", 1), num("y", 2))
	roomB := pairs(longPair("b"), longPair("c"), num("", 1), num("z", 2))
	roomA[1].Value = number(1)
	beforeA, beforeB := slices.Clone(roomA), slices.Clone(roomB)
	for name, call := range calls() {
		one, err := call(roomA[:2], roomB[:2])
		if err != nil || len(one) == 0 {
			t.Fatalf("%s = %s, %v", name, short(one), err)
		}
		want := slices.Clone(one)
		two, _ := call(roomA[:2], roomB[:2])
		clear(two[:cap(two)])
		if !slices.Equal(one, want) {
			t.Errorf("%s: a write into a later answer is seen in an earlier one", name)
		}
		clear(one[:cap(one)])
		if !slices.Equal(roomA, beforeA) || !slices.Equal(roomB, beforeB) {
			t.Fatalf("%s: its arguments are changed, or an answer's memory is theirs", name)
		}
		one, _ = call(roomA[:2], roomB[:2])
		clear(roomA)
		clear(roomB)
		if !slices.Equal(one, want) {
			t.Errorf("%s: a write into an argument is seen in the answer", name)
		}
		copy(roomA, beforeA)
		copy(roomB, beforeB)
	}
}

// within tells whether the bytes of s lie in those of a list's texts.
func within(s string, list []api.Attr) bool {
	at := uintptr(unsafe.Pointer(unsafe.StringData(s)))
	for _, pair := range list {
		for _, whole := range []string{pair.Key, pair.Value.Text} {
			from := uintptr(unsafe.Pointer(unsafe.StringData(whole)))
			if s != "" && at >= from && at < from+uintptr(len(whole)) {
				return true
			}
		}
	}
	return false
}

func TestTextsAreNewMemory(t *testing.T) {
	a, b := pairs(longPair("a"), longPair("b")), pairs(longPair("b"), longPair("c"))
	a[1].Value = number(1)
	both := slices.Concat(a, b)
	for name, call := range calls() {
		list, err := call(a, b)
		if err != nil {
			t.Fatal(name, err)
		}
		for _, pair := range list {
			if within(pair.Key, both) || within(pair.Value.Text, both) {
				t.Errorf("%s answers memory of its argument", name)
			}
		}
	}
	for key, v := range attrs.Each(b) {
		if within(key, b) || within(v.Plain().Text, b) {
			t.Error("Each answers memory of its argument")
		}
	}
	if v, ok := attrs.Get(b, b[1].Key); !ok || within(v.Plain().Text, b) {
		t.Errorf("Get answers %v, %v, or memory of its argument", v, ok)
	}
}

// One list in both places is read twice, and written never.
func TestOneListTwice(t *testing.T) {
	list := pairs(num("a", 1), num("b", 2), num("c", 3))
	compareTwo(t, list, list)
	compareTwo(t, list[:2], list[1:])
	expect(t, "the list", list, nil, pairs(num("a", 1), num("b", 2), num("c", 3)), nil)
}

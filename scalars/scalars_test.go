package scalars_test

import (
	"math"
	"slices"
	"strings"
	"testing"
	"unsafe"

	"vellum/api"
	"vellum/scalars"
)

// encode is the encoding of a number as the chapter tells it, apart from the library; "" of what is no scalar.
func encode(r rune) string {
	low := func(shift int) byte { return 0x80 + byte(r>>shift&0x3f) }
	switch {
	case r < 0 || r >= 0xd800 && r <= 0xdfff || r > 0x10ffff:
		return ""
	case r < 0x80:
		return string([]byte{byte(r)})
	case r < 0x800:
		return string([]byte{0xc0 + byte(r>>6), low(0)})
	case r < 0x10000:
		return string([]byte{0xe0 + byte(r>>12), low(6), low(0)})
	}
	return string([]byte{0xf0 + byte(r>>18), low(12), low(6), low(0)})
}

// decode is the scalar whose encoding s begins with; -1, if there is none.
func decode(s string) rune {
	masks := []rune{0x7f, 0x1f, 0x0f, 0x07}
	for width := 1; width <= 4 && width <= len(s); width++ {
		r := rune(s[0]) & masks[width-1]
		for _, b := range []byte(s[1:width]) {
			r = r<<6 + rune(b&0x3f)
		}
		if encode(r) == s[:width] {
			return r
		}
	}
	return -1
}

// model is the scalars of s up to where it breaks, with the places of their first bytes, and where that is.
func model(s string) (list []rune, places []int, end int) {
	for end < len(s) {
		r := decode(s[end:])
		if r < 0 {
			break
		}
		list = append(list, r)
		places = append(places, end)
		end += len(encode(r))
	}
	return list, places, end
}

// edges are bytes at and beside the bounds that UTF-8 sets.
const edges = "\x00a\x7f\x80\x8f\x90\x9f\xa0\xbf\xc0\xc1\xc2\xdf\xe0\xe1\xec\xed\xee\xef\xf0\xf1\xf3\xf4\xf5\xf8\xfc\xfe\xff"

// eachBytes goes over all texts of at most so many of the bytes.
func eachBytes(bytes string, most int, visit func(s string)) {
	var grow func(s string)
	grow = func(s string) {
		visit(s)
		if len(s) == most {
			return
		}
		for i := range len(bytes) {
			grow(s + bytes[i:i+1])
		}
	}
	grow("")
}

func allBytes() string {
	var all []byte
	for b := range 256 {
		all = append(all, byte(b))
	}
	return string(all)
}

var samples = []string{
	"", "a", "a\u00e9", "a\u00e9\u20ac", "a\u00e9\u20ac\U0001f600", "\x00\x7f\u0080\u07ff\u0800\uffff\U00010000\U0010ffff",
	"\ud7ff\ue000", "\ufffd", "a\ufffdb", "\ufeff\u0301\n\r", strings.Repeat("\U0001f600\u20ac", 100),
	"a\xc3", "\xc0\x80", "\xed\xa0\x80", "\xf4\x90\x80\x80", "\x80", "\xff", "\ufffd\xff", "ab\xe2\x82", "\xe2\x82\xacx\xe2\x82",
	"\u20ac\xf0\x9f\x98", "\xf0\x8f\xbf\xbf", "\xed\xbf\xbf", "\xe0\x9f\xbf", "\xf8\x88\x80\x80\x80", "a\u00e9\xffb\u20ac",
}

func isUtf8(s string) bool {
	_, _, end := model(s)
	return end == len(s)
}

// compare holds every call that takes a text against the model.
func compare(t *testing.T, s string) {
	t.Helper()
	list, _, end := model(s)
	var fault error
	if end < len(s) {
		fault = api.ErrUtf8
	}
	if n, err := scalars.Check(s); n != end || err != fault {
		t.Fatalf("Check(%q) = %d, %v, not %d, %v", s, n, err, end, fault)
	}
	if fault == nil {
		compareGood(t, s, list)
	} else {
		compareBroken(t, s)
	}
	compareEach(t, s)
}

func compareGood(t *testing.T, s string, list []rune) {
	t.Helper()
	if n, err := scalars.Len(s); n != len(list) || err != nil {
		t.Fatalf("Len(%q) = %d, %v", s, n, err)
	}
	if l, err := scalars.List(s); !slices.Equal(l, list) || err != nil {
		t.Fatalf("List(%q) = %x, %v", s, l, err)
	}
	head := ""
	for i := 0; i <= len(list); i++ {
		if a, b, err := scalars.Cut(s, i); a != head || b != s[len(head):] || err != nil {
			t.Fatalf("Cut(%q, %d) = %q, %q, %v", s, i, a, b, err)
		}
		if i == len(list) {
			break
		}
		if r, err := scalars.At(s, i); r != list[i] || err != nil {
			t.Fatalf("At(%q, %d) = %x, %v", s, i, r, err)
		}
		head += encode(list[i])
	}
	for _, i := range []int{math.MinInt, -1, len(list), len(list) + 1, math.MaxInt} {
		if r, err := scalars.At(s, i); r != 0 || err != api.ErrRange {
			t.Fatalf("At(%q, %d) = %x, %v", s, i, r, err)
		}
		if i == len(list) {
			continue
		}
		if a, b, err := scalars.Cut(s, i); a != "" || b != "" || err != api.ErrRange {
			t.Fatalf("Cut(%q, %d) = %q, %q, %v", s, i, a, b, err)
		}
	}
}

func compareBroken(t *testing.T, s string) {
	t.Helper()
	if n, err := scalars.Len(s); n != 0 || err != api.ErrUtf8 {
		t.Fatalf("Len(%q) = %d, %v", s, n, err)
	}
	if l, err := scalars.List(s); len(l) != 0 || err != api.ErrUtf8 {
		t.Fatalf("List(%q) = %x, %v", s, l, err)
	}
	for _, i := range []int{math.MinInt, -1, 0, 1, len(s) + 1, math.MaxInt} {
		if a, b, err := scalars.Cut(s, i); a != "" || b != "" || err != api.ErrUtf8 {
			t.Fatalf("Cut(%q, %d) = %q, %q, %v", s, i, a, b, err)
		}
		if r, err := scalars.At(s, i); r != 0 || err != api.ErrUtf8 {
			t.Fatalf("At(%q, %d) = %x, %v", s, i, r, err)
		}
	}
}

func compareEach(t *testing.T, s string) {
	t.Helper()
	list, places, _ := model(s)
	i := 0
	for at, r := range scalars.Each(s) {
		if i == len(list) || at != places[i] || r != list[i] {
			t.Fatalf("Each(%q) tells %x at %d, as number %d", s, r, at, i)
		}
		i++
	}
	if i != len(list) {
		t.Fatalf("Each(%q) tells %d scalars, not %d", s, i, len(list))
	}
}

// P1.1: every call answers what is told.

func TestP1_1Samples(t *testing.T) {
	for _, s := range samples {
		compare(t, s)
	}
}

func TestP1_1AllShortBytes(t *testing.T) {
	eachBytes(allBytes(), 2, func(s string) { compare(t, s) })
}

func TestP1_1EdgeBytes(t *testing.T) {
	eachBytes(edges, 4, func(s string) {
		_, _, end := model(s)
		if n, err := scalars.Check(s); n != end || (err == api.ErrUtf8) != (end < len(s)) || (err == nil) != (end == len(s)) {
			t.Fatalf("Check(%q) = %d, %v", s, n, err)
		}
	})
	eachBytes(edges, 3, func(s string) { compare(t, s) })
}

func TestP1_1AllScalars(t *testing.T) {
	for r := rune(-0x100); r < 0x110100; r++ {
		want := encode(r)
		if n := scalars.Width(r); n != len(want) {
			t.Fatalf("Width(%x) = %d", r, n)
		}
		s, err := scalars.Text([]rune{r})
		if s != want || (err == nil) != (want != "") || want == "" && err != api.ErrUtf8 {
			t.Fatalf("Text(%x) = %q, %v", r, s, err)
		}
		if want == "" {
			continue
		}
		if n, err := scalars.Check(want); n != len(want) || err != nil {
			t.Fatalf("Check(%q) = %d, %v", want, n, err)
		}
		if got, err := scalars.At(want, 0); got != r || err != nil {
			t.Fatalf("At(%q, 0) = %x, %v", want, got, err)
		}
	}
	for _, r := range []rune{math.MinInt32, math.MinInt32 + 'a', math.MaxInt32} {
		if n := scalars.Width(r); n != 0 {
			t.Errorf("Width(%x) = %d", r, n)
		}
	}
}

func TestP1_1TextOfWrongLists(t *testing.T) {
	for _, wrong := range []rune{-1, 0xd800, 0xdbff, 0xdc00, 0xdfff, 0x110000, math.MinInt32, math.MaxInt32} {
		for _, list := range [][]rune{{wrong}, {wrong, 'a'}, {'a', wrong}, {0x1f600, wrong, 'b'}, {0xd83d, 0xde00, wrong}} {
			if s, err := scalars.Text(list); s != "" || err != api.ErrUtf8 {
				t.Errorf("Text(%x) = %q, %v", list, s, err)
			}
		}
	}
	for _, list := range [][]rune{nil, {}} {
		if s, err := scalars.Text(list); s != "" || err != nil {
			t.Errorf("Text of no scalars = %q, %v", s, err)
		}
	}
}

func TestP1_1Examples(t *testing.T) {
	for s, want := range map[string]int{"a\xc3\xa9": 3, "\xf4\x8f\xbf\xbf": 4} {
		if n, err := scalars.Check(s); n != want || err != nil {
			t.Errorf("Check(%q) = %d, %v", s, n, err)
		}
	}
	for s, want := range map[string]int{"a\xc3": 1, "\xc0\x80": 0, "\xed\xa0\x80": 0, "\xf4\x90\x80\x80": 0, "\x80": 0} {
		if n, err := scalars.Check(s); n != want || err != api.ErrUtf8 {
			t.Errorf("Check(%q) = %d, %v", s, n, err)
		}
	}
	s := "a\u00e9\u20ac"
	if n, err := scalars.Len(s); n != 3 || err != nil {
		t.Errorf("Len = %d, %v", n, err)
	}
	if a, b, err := scalars.Cut(s, 2); a != "a\u00e9" || b != "\u20ac" || err != nil {
		t.Errorf("Cut = %q, %q, %v", a, b, err)
	}
	if r, err := scalars.At(s, 3); r != 0 || err != api.ErrRange {
		t.Errorf("At = %x, %v", r, err)
	}
}

// The rules (P1): what is handed in isn't changed, answers are new memory, iterators go again.

func TestEachStopsAndGoesAgain(t *testing.T) {
	each := scalars.Each("a\u00e9\u20ac\xffb")
	for stop := range 4 {
		var places []int
		for at := range each {
			if len(places) == stop {
				break
			}
			places = append(places, at)
		}
		if want := []int{0, 1, 3}[:stop]; !slices.Equal(places, want) {
			t.Errorf("Each, stopped behind %d, tells %v", stop, places)
		}
	}
}

func TestListIsNewMemory(t *testing.T) {
	s := "a\u00e9\u20ac"
	one, _ := scalars.List(s)
	clear(one[:cap(one)])
	two, err := scalars.List(s)
	if !slices.Equal(two, []rune{'a', 0xe9, 0x20ac}) || err != nil {
		t.Errorf("List = %x, %v, behind a write into an earlier answer", two, err)
	}
}

func TestTextLeavesItsList(t *testing.T) {
	room := []rune{'a', 0x20ac, 0x110000, 'z'}
	list := room[:2]
	s, err := scalars.Text(list)
	if s != "a\u20ac" || err != nil {
		t.Errorf("Text = %q, %v", s, err)
	}
	if !slices.Equal(room, []rune{'a', 0x20ac, 0x110000, 'z'}) {
		t.Errorf("Text changed its list: %x", room)
	}
	list[0] = 'b'
	if s != "a\u20ac" {
		t.Errorf("a write into the list is seen in the text: %q", s)
	}
}

func TestCutIsNewMemory(t *testing.T) {
	s := strings.Repeat("\u20ac", 20)
	from := uintptr(unsafe.Pointer(unsafe.StringData(s)))
	for n := range 21 {
		a, b, err := scalars.Cut(s, n)
		if err != nil {
			t.Fatal(err)
		}
		for _, piece := range []string{a, b} {
			at := uintptr(unsafe.Pointer(unsafe.StringData(piece)))
			if piece != "" && at >= from && at < from+uintptr(len(s)) {
				t.Errorf("Cut(%d) answers memory of its argument", n)
			}
		}
	}
}

// P1.2: there and back.

func TestP1_2ThereAndBack(t *testing.T) {
	runes := []rune{0, '\n', 'a', 0x7f, 0x80, 0x7ff, 0x800, 0xd7ff, 0xe000, 0xfffd, 0xffff, 0x10000, 0x10ffff}
	seen := map[string]bool{}
	var grow func(list []rune)
	grow = func(list []rune) {
		s, err := scalars.Text(list)
		if err != nil || seen[s] {
			t.Fatalf("Text(%x) = %q, %v; another list's text: %v", list, s, err, seen[s])
		}
		seen[s] = true
		if back, err := scalars.List(s); !slices.Equal(back, list) || err != nil {
			t.Fatalf("List of Text(%x) = %x, %v", list, back, err)
		}
		if len(list) == 4 {
			return
		}
		for _, r := range runes {
			grow(append(slices.Clone(list), r))
		}
	}
	grow(nil)
}

func TestP1_2BackAndThere(t *testing.T) {
	back := func(s string) {
		if !isUtf8(s) {
			return
		}
		list, err := scalars.List(s)
		if err != nil {
			t.Fatalf("List(%q): %v", s, err)
		}
		if there, err := scalars.Text(list); there != s || err != nil {
			t.Fatalf("Text of List(%q) = %q, %v", s, there, err)
		}
	}
	for _, s := range samples {
		back(s)
	}
	eachBytes(edges, 4, back)
}

// P1.3: cuts.

func cut(t *testing.T, s string, n int) (string, string) {
	t.Helper()
	a, b, err := scalars.Cut(s, n)
	if err != nil {
		t.Fatalf("Cut(%q, %d): %v", s, n, err)
	}
	return a, b
}

func TestP1_3Cuts(t *testing.T) {
	for _, s := range samples {
		if !isUtf8(s) {
			continue
		}
		length, _ := scalars.Len(s)
		for n := 0; n <= length; n++ {
			a, b := cut(t, s, n)
			left, err := scalars.Len(a)
			right, err2 := scalars.Len(b)
			if a+b != s || left != n || left+right != length || err != nil || err2 != nil {
				t.Fatalf("Cut(%q, %d) = %q, %q", s, n, a, b)
			}
			for m := range min(n, 12) + 1 {
				x, y := cut(t, a, m)
				if p, q := cut(t, s, m); x != p || y+b != q {
					t.Fatalf("Cut of Cut(%q, %d) behind %d = %q, %q", s, n, m, x, y)
				}
			}
			for m := range min(right, 12) + 1 {
				x, y := cut(t, b, m)
				if p, q := cut(t, s, n+m); a+x != p || y != q {
					t.Fatalf("Cut of the rest of Cut(%q, %d) behind %d = %q, %q", s, n, m, x, y)
				}
			}
		}
	}
}

// P1.4: where joined texts break.

func TestP1_4Joined(t *testing.T) {
	join := func(a, b string) {
		if !isUtf8(a) {
			return
		}
		in, fault := scalars.Check(b)
		if n, err := scalars.Check(a + b); n != len(a)+in || err != fault {
			t.Fatalf("Check(%q + %q) = %d, %v; of the second alone %d, %v", a, b, n, err, in, fault)
		}
	}
	for _, a := range samples {
		for _, b := range samples {
			join(a, b)
		}
		eachBytes(edges, 2, func(b string) { join(a, b) })
	}
	eachBytes(edges, 2, func(a string) {
		eachBytes(edges, 2, func(b string) { join(a, b) })
	})
}

func TestP1_4NoLongerBeginning(t *testing.T) {
	longest := func(s string) {
		end, _ := scalars.Check(s)
		if n, err := scalars.Check(s[:end]); n != end || err != nil {
			t.Fatalf("Check(%q), up to where it breaks, = %d, %v", s, n, err)
		}
		for i := end + 1; i <= len(s); i++ {
			if n, err := scalars.Check(s[:i]); n != end || err != api.ErrUtf8 {
				t.Fatalf("Check(%q) = %d, %v", s[:i], n, err)
			}
		}
	}
	for _, a := range samples {
		for _, b := range samples {
			longest(a + b)
		}
	}
	eachBytes(edges, 4, longest)
}

// P1.5: pairs of surrogates.

func TestP1_5EachPairAnother(t *testing.T) {
	next := rune(0x10000)
	for high := rune(0xd800); high <= 0xdbff; high++ {
		for low := rune(0xdc00); low <= 0xdfff; low++ {
			if r, err := scalars.Pair(high, low); r != next || err != nil {
				t.Fatalf("Pair(%x, %x) = %x, %v, not %x", high, low, r, err, next)
			}
			next++
		}
	}
	if next != 0x110000 {
		t.Errorf("the pairs end ahead of %x", next)
	}
	if r, err := scalars.Pair(0xd83d, 0xde00); r != 0x1f600 || err != nil {
		t.Errorf("Pair(d83d, de00) = %x, %v", r, err)
	}
}

func TestP1_5NoPair(t *testing.T) {
	refused := func(high, low rune) {
		if r, err := scalars.Pair(high, low); r != 0 || err != api.ErrUtf8 {
			t.Errorf("Pair(%x, %x) = %x, %v", high, low, r, err)
		}
	}
	for _, high := range []rune{math.MinInt32, -1, 0, 'a', 0xd7ff, 0xdc00, 0xde00, 0xdfff, 0xe000, 0x1d800, 0x10ffff, math.MaxInt32} {
		for _, low := range []rune{0xdc00, 0xde00, 0xdfff, 0xd83d, 'a'} {
			refused(high, low)
		}
	}
	for _, low := range []rune{math.MinInt32, -1, 0, 'a', 0xd800, 0xd83d, 0xdbff, 0xe000, 0x1dc00, 0x10ffff, math.MaxInt32} {
		for _, high := range []rune{0xd800, 0xd83d, 0xdbff} {
			refused(high, low)
		}
	}
}

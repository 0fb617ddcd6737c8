package values_test

import (
	"fmt"
	"math"
	"math/big"
	"slices"
	"strings"
	"testing"
	"unicode/utf8"
	"unsafe"

	"vellum/api"
	"vellum/values"
)

func flag(n int64) api.Plain   { return api.Plain{Kind: api.KindFlag, Number: n} }
func number(n int64) api.Plain { return api.Plain{Kind: api.KindNumber, Number: n} }
func text(s string) api.Plain  { return api.Plain{Kind: api.KindText, Text: s} }

var (
	kinds   = []int{math.MinInt, -1, api.KindNull, api.KindFlag, api.KindNumber, api.KindText, 4, 1 << 32, math.MaxInt}
	numbers = []int64{math.MinInt64, -1 << 32, -2, -1, 0, 1, 2, 1 << 32, 1<<32 + 1, math.MaxInt64}
	texts   = []string{
		"", "\x00", "'", "0", "1", "B", "a", "ab", "it's", "null", "true", "\u00e9", "\ufffd", "\U0010ffff",
		"\x80", "\xc3", "a\xff", "\xc0\x80", "\xed\xa0\x80", "\xf4\x90\x80\x80",
	}
	// Lengths are counted in bytes, not in scalars.
	longTexts = []string{
		letters(api.MaxText - 1), letters(api.MaxText), letters(api.MaxText + 1),
		strings.Repeat("\u00e9", api.MaxText/2), strings.Repeat("\u00e9", api.MaxText/2) + "a", strings.Repeat("\u00e9", api.MaxText/2+1),
		letters(api.MaxText-1) + "\xff", letters(api.MaxText) + "\xff", letters(2 * api.MaxText), "\xff" + letters(2*api.MaxText),
	}
)

func letters(n int) string { return strings.Repeat("a", n) }

// plains are all of the kinds, the numbers and the texts together.
func plains() []api.Plain {
	var all []api.Plain
	for _, kind := range kinds {
		for _, n := range numbers {
			for _, s := range texts {
				all = append(all, api.Plain{Kind: kind, Number: n, Text: s})
			}
		}
		for _, s := range longTexts {
			all = append(all, api.Plain{Kind: kind, Text: s})
		}
	}
	return all
}

// fault is the error that the chapter tells for p; nil, if p is good.
func fault(p api.Plain) error {
	good := []bool{
		api.KindNull:   p == api.Plain{},
		api.KindFlag:   p == flag(0) || p == flag(1),
		api.KindNumber: p == number(p.Number),
		api.KindText:   p == text(p.Text),
	}
	switch {
	case p.Kind < 0 || p.Kind >= len(good) || !good[p.Kind]:
		return api.ErrKind
	case !utf8.ValidString(p.Text):
		return api.ErrUtf8
	case len(p.Text) > api.MaxText:
		return api.ErrLimit
	}
	return nil
}

func goodPlains() []api.Plain {
	return slices.DeleteFunc(plains(), func(p api.Plain) bool { return fault(p) != nil })
}

// model is the value and the text of a good p.
func model(p api.Plain) (api.Value, string) {
	switch p.Kind {
	case api.KindFlag:
		return api.Flag(p.Number != 0), []string{"false", "true"}[p.Number]
	case api.KindNumber:
		return api.Number(p.Number), big.NewInt(p.Number).String()
	case api.KindText:
		return api.Text(p.Text), "'" + p.Text
	}
	return api.Null{}, "null"
}

// short tells of p without the whole of a long text.
func short(p api.Plain) string {
	return fmt.Sprintf("{%d %d %s, %d bytes}", p.Kind, p.Number, shortText(p.Text), len(p.Text))
}

func shortText(s string) string { return fmt.Sprintf("%.40q", s) }

// P2.1: every call answers what is told.

func TestP2_1CheckOfText(t *testing.T) {
	for _, p := range plains() {
		want := fault(p)
		var value api.Value
		var written string
		if want == nil {
			value, written = model(p)
		}
		if err := values.Check(p); err != want {
			t.Errorf("Check(%s) = %v, not %v", short(p), err, want)
		}
		if v, err := values.Of(p); v != value || err != want {
			t.Errorf("Of(%s) = %.40v, %v, not %.40v, %v", short(p), v, err, value, want)
		}
		if s, err := values.Text(p); s != written || err != want {
			t.Errorf("Text(%s) = %s, %v, not %s, %v", short(p), shortText(s), err, shortText(written), want)
		}
	}
}

func TestP2_1List(t *testing.T) {
	good := goodPlains()
	list, at, err := values.List(good)
	if len(list) != len(good) || at != 0 || err != nil {
		t.Fatalf("List of %d good ones = %d, %d, %v", len(good), len(list), at, err)
	}
	for i, p := range good {
		if want, _ := model(p); list[i] != want {
			t.Errorf("List: number %d of %s = %.40v", i, short(p), list[i])
		}
	}
	for _, none := range [][]api.Plain{nil, {}} {
		if list, at, err := values.List(none); len(list) != 0 || at != 0 || err != nil {
			t.Errorf("List of none = %v, %d, %v", list, at, err)
		}
	}
}

func TestP2_1ListRefuses(t *testing.T) {
	good := []api.Plain{{}, flag(1), number(-5), text("x")}
	for _, wrong := range []api.Plain{flag(7), {Kind: 9}, {Number: 1}, text("\xff"), text(letters(api.MaxText + 1))} {
		for place := range len(good) + 1 {
			list := slices.Insert(slices.Clone(good), place, wrong)
			for _, l := range [][]api.Plain{list, append(slices.Clone(list), api.Plain{Kind: -1}, text("\xfe"))} {
				if v, at, err := values.List(l); len(v) != 0 || at != place || err != fault(wrong) {
					t.Errorf("List with %s at %d = %v, %d, %v", short(wrong), place, v, at, err)
				}
			}
		}
	}
}

func TestP2_1Same(t *testing.T) {
	for _, a := range plains() {
		for _, b := range []api.Plain{
			a,
			{Kind: a.Kind + 1, Number: a.Number, Text: a.Text},
			{Kind: a.Kind, Number: a.Number + 1, Text: a.Text},
			{Kind: a.Kind, Number: -a.Number, Text: a.Text},
			{Kind: a.Kind, Number: a.Number, Text: a.Text + "\xff"},
			{Kind: a.Kind, Number: a.Number, Text: strings.ToUpper(a.Text)},
			{Kind: a.Kind, Number: a.Number, Text: strings.Clone(a.Text)},
			{},
		} {
			want := a.Kind == b.Kind && a.Number == b.Number && a.Text == b.Text
			if values.Same(a, b) != want || values.Same(b, a) != want {
				t.Errorf("Same(%s, %s) isn't %v", short(a), short(b), want)
			}
		}
	}
}

// refused asks that Parse refuses s.
func refused(t *testing.T, s string, want error) {
	t.Helper()
	if v, err := values.Parse(s); v != nil || err != want {
		t.Errorf("Parse(%s) = %.40v, %v, not %v", shortText(s), v, err, want)
	}
}

// taken asks that Parse answers the value, and that its text is s again.
func taken(t *testing.T, s string, want api.Value) {
	t.Helper()
	v, err := values.Parse(s)
	if v != want || err != nil {
		t.Errorf("Parse(%s) = %.40v, %v, not %.40v", shortText(s), v, err, want)
		return
	}
	if back, err := values.Text(v.Plain()); back != s || err != nil {
		t.Errorf("Text of Parse(%s) = %s, %v", shortText(s), shortText(back), err)
	}
}

func TestP2_1ParseWords(t *testing.T) {
	words := map[string]api.Value{"null": api.Null{}, "true": api.Flag(true), "false": api.Flag(false)}
	for word, value := range words {
		taken(t, word, value)
		for _, near := range []string{
			strings.ToUpper(word), strings.ToUpper(word[:1]) + word[1:], word + " ", " " + word, word + "\x00", word + "'", word + word, word + "\xff", "-" + word,
			word[1:], word[:len(word)-1],
		} {
			refused(t, near, api.ErrKind)
		}
		taken(t, "'"+word, api.Text(word))
	}
	for _, s := range []string{"nil", "t", "f", "yes", "\"x\"", "x'", " 'x", "\u2019x", "\xff"} {
		refused(t, s, api.ErrKind)
	}
}

func TestP2_1ParseTexts(t *testing.T) {
	for _, s := range slices.Concat(texts, longTexts) {
		if err := fault(text(s)); err != nil {
			refused(t, "'"+s, err)
		} else {
			taken(t, "'"+s, api.Text(s))
		}
	}
}

// All short texts of digits and of what stands near them: just the numbers' own texts are taken.
func TestP2_1ParseShortNumbers(t *testing.T) {
	own := map[string]int64{}
	for n := int64(-999999); n <= 999999; n++ {
		own[big.NewInt(n).String()] = n
	}
	const near = "0159-+. _exX/:\xff"
	var grow func(s string)
	grow = func(s string) {
		if n, is := own[s]; is {
			taken(t, s, api.Number(n))
		} else {
			refused(t, s, api.ErrKind)
		}
		if len(s) == 4 {
			return
		}
		for i := range len(near) {
			grow(s + near[i:i+1])
		}
	}
	grow("")
}

func TestP2_1ParseGreatNumbers(t *testing.T) {
	for shift := range uint(80) {
		for beside := int64(-11); beside <= 11; beside++ {
			n := new(big.Int).Lsh(big.NewInt(1), shift)
			n.Add(n, big.NewInt(beside))
			for range 2 {
				if n.IsInt64() {
					taken(t, n.String(), api.Number(n.Int64()))
				} else {
					refused(t, n.String(), api.ErrNumber)
				}
				n.Neg(n)
			}
		}
	}
	for _, digits := range []string{"9", "1" + strings.Repeat("0", 30), strings.Repeat("9", 1<<16)} {
		long := strings.Repeat(digits, 40)
		refused(t, long, api.ErrNumber)
		refused(t, "-"+long, api.ErrNumber)
		// What isn't a number's text at all is told ahead of its size.
		for _, s := range []string{"0" + long, "-0" + long, "+" + long, "--" + long, long + " ", long + ".", long + "e", long + "-", long + "\uff11"} {
			refused(t, s, api.ErrKind)
		}
	}
}

func TestP2_1Examples(t *testing.T) {
	for p, want := range map[api.Plain]api.Value{
		flag(1):       api.Flag(true),
		number(-5):    api.Number(-5),
		(api.Plain{}): api.Null{},
	} {
		if v, err := values.Of(p); v != want || err != nil || v.Plain() != p {
			t.Errorf("Of(%v) = %v, %v", p, v, err)
		}
	}
	for _, p := range []api.Plain{flag(2), {Kind: api.KindNull, Number: 1}, {Kind: api.KindNumber, Number: 1, Text: "x"}, {Kind: api.KindText, Number: 1, Text: "x"}, {Kind: 4}} {
		if v, err := values.Of(p); v != nil || err != api.ErrKind {
			t.Errorf("Of(%v) = %v, %v", p, v, err)
		}
	}
	if err := values.Check(text("\xff")); err != api.ErrUtf8 {
		t.Errorf("Check of broken bytes = %v", err)
	}
	if v, err := values.Of(text(letters(1<<20 + 1))); v != nil || err != api.ErrLimit {
		t.Errorf("Of one of 2^20 + 1 letters = %.40v, %v", v, err)
	}
	if list, at, err := values.List([]api.Plain{{}, flag(7)}); len(list) != 0 || at != 1 || err != api.ErrKind {
		t.Errorf("List = %v, %d, %v", list, at, err)
	}
	for p, want := range map[api.Plain]string{number(-12): "-12", text("it's"): "'it's", text(""): "'"} {
		if s, err := values.Text(p); s != want || err != nil {
			t.Errorf("Text(%v) = %q, %v", p, s, err)
		}
	}
	taken(t, "'", api.Text(""))
	taken(t, "-9223372036854775808", api.Number(math.MinInt64))
	for s, want := range map[string]error{"-0": api.ErrKind, "00": api.ErrKind, "01": api.ErrKind, "+1": api.ErrKind, "": api.ErrKind, "True": api.ErrKind, "9223372036854775808": api.ErrNumber} {
		refused(t, s, want)
	}
	if c := values.Compare(flag(1), number(-1)); c != -1 {
		t.Errorf("Compare of true and -1 = %d", c)
	}
	if c := values.Compare(text("a"), text("B")); c != 1 {
		t.Errorf("Compare of a and B = %d", c)
	}
}

// P2.2: there and back.

// kindOf is the kind that v's dynamic type says; -1, if it is none of the four (a pointer to one is none).
func kindOf(v api.Value) int {
	switch v.(type) {
	case api.Null:
		return api.KindNull
	case api.Flag:
		return api.KindFlag
	case api.Number:
		return api.KindNumber
	case api.Text:
		return api.KindText
	}
	return -1
}

func TestP2_2ThereAndBack(t *testing.T) {
	good := goodPlains()
	list, _, err := values.List(good)
	if err != nil || len(list) != len(good) {
		t.Fatalf("List = %d, %v", len(list), err)
	}
	for i, p := range good {
		v, err := values.Of(p)
		if err != nil || v == nil {
			t.Errorf("Of(%s) = %.40v, %v", short(p), v, err)
			continue
		}
		s, err := values.Text(p)
		if err != nil {
			t.Errorf("Text(%s): %v", short(p), err)
		}
		w, err := values.Parse(s)
		if err != nil || w != v {
			t.Errorf("Parse of Text(%s) = %.40v, %v", short(p), w, err)
		}
		for _, v := range []api.Value{v, list[i], w} {
			if kindOf(v) != p.Kind || v.Kind() != p.Kind || v.Plain() != p {
				t.Errorf("of %s: a %T, of the kind %d, which is %s", short(p), v, v.Kind(), short(v.Plain()))
			}
		}
	}
}

// P2.3: equality.

func TestP2_3Equality(t *testing.T) {
	good := goodPlains()
	one, _, err := values.List(good)
	if err != nil || len(one) != len(good) {
		t.Fatalf("List = %d, %v", len(one), err)
	}
	for i, a := range good {
		for _, b := range good {
			v, err := values.Of(b)
			if err != nil {
				t.Fatal(err)
			}
			if (one[i] == v) != (a == b) {
				t.Errorf("the values of %s and %s are equal: %v", short(a), short(b), one[i] == v)
			}
		}
	}
	for _, p := range []api.Plain{number(0), number(1), text("0"), text("1"), text("null"), text("true"), text("")} {
		v, err := values.Of(p)
		if err != nil || v == api.Value(api.Flag(true)) || v == api.Value(api.Flag(false)) || v == api.Value(api.Null{}) {
			t.Errorf("Of(%v) = %v, %v", p, v, err)
		}
	}
}

// P2.4: Compare is an order.

// ordered are good plains, as the order of values has them.
var ordered = []api.Plain{
	{}, flag(0), flag(1),
	number(math.MinInt64), number(math.MinInt64 + 1), number(-1 << 32), number(-10), number(-9), number(-1), number(0),
	number(1), number(2), number(10), number(1 << 32), number(math.MaxInt64 - 1), number(math.MaxInt64),
	text(""), text("\x00"), text("\x00\x00"), text("'"), text("-1"), text("10"), text("9"), text("A"), text("B"), text("Ba"), text("a"), text("aB"), text("ab"),
	text("\x7f"), text("\u00e9"), text("\ufffd"), text("\U00010000"),
}

func TestP2_4OrderOfValues(t *testing.T) {
	for i, a := range ordered {
		for j, b := range ordered {
			want := 0
			if i < j {
				want = -1
			} else if i > j {
				want = 1
			}
			if c := values.Compare(a, b); c != want {
				t.Errorf("Compare(%v, %v) = %d", a, b, c)
			}
		}
	}
}

func TestP2_4OrderOfAll(t *testing.T) {
	all := plains()
	for _, a := range all {
		for _, b := range all {
			c := values.Compare(a, b)
			if (c == 0) != values.Same(a, b) || c != -values.Compare(b, a) || c != compareFields(a, b) {
				t.Fatalf("Compare(%s, %s) = %d", short(a), short(b), c)
			}
		}
	}
}

// compareFields is the order that the chapter tells of Plains that needn't be good.
func compareFields(a, b api.Plain) int {
	switch {
	case a == b:
		return 0
	case a.Kind < b.Kind,
		a.Kind == b.Kind && a.Number < b.Number,
		a.Kind == b.Kind && a.Number == b.Number && a.Text < b.Text:
		return -1
	}
	return 1
}

func TestP2_4PassedOn(t *testing.T) {
	var some []api.Plain
	for _, kind := range kinds[1:7] {
		for _, n := range []int64{math.MinInt64, -1, 0, math.MaxInt64} {
			for _, s := range []string{"", "a", "a\xff", "\xff"} {
				some = append(some, api.Plain{Kind: kind, Number: n, Text: s})
			}
		}
	}
	for _, a := range some {
		for _, b := range some {
			if values.Compare(a, b) >= 0 {
				continue
			}
			for _, c := range some {
				if values.Compare(b, c) < 0 && values.Compare(a, c) >= 0 {
					t.Fatalf("%v, %v and %v don't rise", a, b, c)
				}
			}
		}
	}
}

// The rules (P1): what is handed in isn't changed nor kept, answers are new memory.

func TestListIsNewMemory(t *testing.T) {
	room := []api.Plain{text("x"), number(1), flag(9), text("\xff")}
	before := slices.Clone(room)
	one, _, err := values.List(room[:2])
	if err != nil || len(one) != 2 {
		t.Fatalf("List = %v, %v", one, err)
	}
	if _, _, err := values.List(room[:3]); err != api.ErrKind {
		t.Errorf("List = %v", err)
	}
	if !slices.Equal(room, before) {
		t.Errorf("List changed its list: %v", room)
	}
	two, _, _ := values.List(room[:2])
	clear(room)
	clear(two[:cap(two)])
	if one[0] != api.Value(api.Text("x")) || one[1] != api.Value(api.Number(1)) {
		t.Errorf("List = %v, behind writes into its list and a later answer", one)
	}
}

func TestTextsAreNewMemory(t *testing.T) {
	s := strings.Repeat("'\u20ac", 20)
	from := uintptr(unsafe.Pointer(unsafe.StringData(s)))
	apart := func(name string, v api.Value, err error) {
		t.Helper()
		if err != nil {
			t.Fatal(err)
		}
		at := uintptr(unsafe.Pointer(unsafe.StringData(v.Plain().Text)))
		if at >= from && at < from+uintptr(len(s)) {
			t.Errorf("%s answers memory of its argument", name)
		}
	}
	v, err := values.Of(text(s))
	apart("Of", v, err)
	v, err = values.Parse(s)
	apart("Parse", v, err)
	list, _, err := values.List([]api.Plain{text(s)})
	if err != nil || len(list) != 1 {
		t.Fatalf("List = %v, %v", list, err)
	}
	apart("List", list[0], nil)
}

// Package scalars is layer 1: UTF-8, strictly: see shared/doc/01-scalars.md.
package scalars

import (
	"iter"
	"strings"
	"unicode/utf8"

	"vellum/api"
)

// first is the scalar that s begins with, and how many bytes it has; no bytes, if s begins with none.
func first(s string) (rune, int) {
	r, width := utf8.DecodeRuneInString(s)
	// The library tells a fault by the scalar fffd, too: only its width tells it from one that is written.
	if r == utf8.RuneError && width < 2 {
		return 0, 0
	}
	return r, width
}

// Check is where s breaks; its length, if it doesn't.
func Check(s string) (int, error) {
	for at := 0; at < len(s); {
		_, width := first(s[at:])
		if width == 0 {
			return at, api.ErrUtf8
		}
		at += width
	}
	return len(s), nil
}

// Len is how many scalars s has.
func Len(s string) (int, error) {
	if _, err := Check(s); err != nil {
		return 0, err
	}
	return utf8.RuneCountInString(s), nil
}

// place is the number of the first byte behind the first n scalars of s, which is UTF-8 and has as many.
func place(s string, n int) int {
	for at := range s {
		if n == 0 {
			return at
		}
		n--
	}
	return len(s)
}

// Cut cuts s behind its first n scalars.
func Cut(s string, n int) (string, string, error) {
	count, err := Len(s)
	if err != nil {
		return "", "", err
	}
	if n < 0 || n > count {
		return "", "", api.ErrRange
	}
	at := place(s, n)
	// A piece of s itself would share its memory, and a short one would hold all of it.
	return strings.Clone(s[:at]), strings.Clone(s[at:]), nil
}

// At is scalar number i.
func At(s string, i int) (rune, error) {
	count, err := Len(s)
	if err != nil {
		return 0, err
	}
	if i < 0 || i >= count {
		return 0, api.ErrRange
	}
	r, _ := first(s[place(s, i):])
	return r, nil
}

// Width is how many bytes a scalar has; 0, if it is none.
func Width(r rune) int {
	return max(0, utf8.RuneLen(r))
}

// Text is the text of these scalars.
func Text(list []rune) (string, error) {
	size := 0
	for _, r := range list {
		width := Width(r)
		if width == 0 {
			return "", api.ErrUtf8
		}
		size += width
	}
	var text strings.Builder
	text.Grow(size)
	for _, r := range list {
		text.WriteRune(r)
	}
	return text.String(), nil
}

// List is the scalars of s.
func List(s string) ([]rune, error) {
	count, err := Len(s)
	if err != nil {
		return nil, err
	}
	list := make([]rune, 0, count)
	for _, r := range s {
		list = append(list, r)
	}
	return list, nil
}

// Each goes over the scalars of s up to where it breaks, each with the number of its first byte.
func Each(s string) iter.Seq2[int, rune] {
	return func(yield func(int, rune) bool) {
		for at := 0; at < len(s); {
			r, width := first(s[at:])
			if width == 0 || !yield(at, r) {
				return
			}
			at += width
		}
	}
}

// Pair is the scalar of two surrogates.
func Pair(high, low rune) (rune, error) {
	if high < 0xd800 || high > 0xdbff || low < 0xdc00 || low > 0xdfff {
		return 0, api.ErrUtf8
	}
	return 0x10000 + (high-0xd800)*0x400 + (low - 0xdc00), nil
}

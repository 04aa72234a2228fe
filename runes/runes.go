// Package runes is layer 1: texts as runes, and texts between quotes.
package runes

import (
	"strings"
	"unicode/utf8"
)

// The classes of runes.
const (
	Other = iota
	Letter
	Digit
	Blank
	Mark
	Sign
)

const hexDigits = "0123456789abcdef"

// Right answers the first place at which no rune stands; -1: there is none.
func Right(s string) int {
	for i, r := range s {
		if !stands(s, i, r) {
			return i
		}
	}
	return -1
}

// Split answers a text's runes.
func Split(s string) []rune {
	l := make([]rune, 0, utf8.RuneCountInString(s))
	for _, r := range s {
		l = append(l, r)
	}
	return l
}

// Join answers the text of runes.
func Join(l []rune) string {
	var b strings.Builder
	b.Grow(len(l))
	for _, r := range l {
		b.WriteRune(r)
	}
	return b.String()
}

// Class answers a rune's.
func Class(r rune) int {
	switch {
	case 'a' <= r && r <= 'z':
		return Letter
	case '0' <= r && r <= '9':
		return Digit
	case r == ' ' || r == '\t':
		return Blank
	case r == '"' || r == '\\':
		return Mark
	case '!' <= r && r <= '~':
		return Sign
	}
	return Other
}

// Quote answers a text between quotes.
func Quote(s string) string {
	var b strings.Builder
	b.Grow(len(s) + 2)
	b.WriteByte('"')
	for i, r := range s {
		switch {
		case !stands(s, i, r) || !plain(r):
			b.WriteString(`\x`)
			b.WriteByte(hexDigits[s[i]>>4])
			b.WriteByte(hexDigits[s[i]&15])
		case Class(r) == Mark:
			b.WriteByte('\\')
			b.WriteRune(r)
		default:
			b.WriteRune(r)
		}
	}
	b.WriteByte('"')
	return b.String()
}

// Unquote answers the text that stands between quotes.
func Unquote(s string) (string, bool) {
	end := len(s) - 1
	if end < 1 || s[0] != '"' || s[end] != '"' || Right(s) >= 0 {
		return "", false
	}
	within := s[1:end]
	var b strings.Builder
	b.Grow(len(within))
	next := 0
	for i, r := range within {
		switch {
		case i < next: // it was read with the \ ahead of it
		case r == '\\':
			c, n := escaped(within[i+1:])
			if n == 0 {
				return "", false
			}
			b.WriteByte(c)
			next = i + 1 + n
		case r == '"' || !plain(r):
			return "", false
		default:
			b.WriteRune(r)
		}
	}
	return b.String(), true
}

// stands tells whether the rune r, which a range over s tells at i, is there: a range tells U+FFFD of a byte at which none is, too.
func stands(s string, i int, r rune) bool {
	return r != utf8.RuneError || strings.HasPrefix(s[i:], "\ufffd")
}

// plain tells whether a rune may stand between quotes as it is, or behind a \.
func plain(r rune) bool { return r >= 32 && r != 127 }

// escaped answers the byte that is meant by what stands behind a \, and how many bytes tell it; 0 bytes: nothing is meant.
func escaped(s string) (byte, int) {
	switch {
	case s == "":
		return 0, 0
	case s[0] == '"' || s[0] == '\\':
		return s[0], 1
	case s[0] != 'x' || len(s) < 3:
		return 0, 0
	}
	high, low := strings.IndexByte(hexDigits, s[1]), strings.IndexByte(hexDigits, s[2])
	if high < 0 || low < 0 {
		return 0, 0
	}
	return byte(16*high + low), 3
}

// Package word is layer 1: see shared/doc/01-word.md.
package word

import (
	"strings"

	"ferryslip/api"
)

const hexDigits = "0123456789abcdef"

// Plain: is it a plain word?
func Plain(s string) bool {
	return len(s) <= api.MaxWord && allPlain(s) && !reserved(s)
}

// Quote: as it is written.
func Quote(s string) (string, api.Errno) {
	if len(s) > api.MaxWord {
		return "", api.ErrLong
	}
	if Plain(s) {
		return s, api.OK
	}
	b := []byte{'"'}
	for i := 0; i < len(s); i++ {
		b = appendQuoted(b, s[i])
	}
	return string(append(b, '"')), api.OK
}

// Scan: a word's end.
func Scan(t string, at int) (int, bool) {
	if at < 0 || at >= len(t) {
		return 0, false
	}
	if t[at] == '"' {
		return quotedEnd(t, at)
	}
	end := at
	for end < len(t) && plainByte(t[end]) {
		end++
	}
	if end == at {
		return 0, false
	}
	return end, true
}

// Unquote: the word that is meant.
func Unquote(t string) (string, api.Errno) {
	s, ok := meant(t)
	if !ok {
		return "", api.ErrForm
	}
	if len(s) > api.MaxWord {
		return "", api.ErrLong
	}
	return s, api.OK
}

// meant leaves the length unasked, as a wrong form goes ahead of ErrLong.
func meant(t string) (string, bool) {
	if allPlain(t) {
		return t, !reserved(t)
	}
	if len(t) < 2 || t[0] != '"' || t[len(t)-1] != '"' {
		return "", false
	}
	return inner(t[1 : len(t)-1])
}

// inner reads what stands between the two ".
func inner(t string) (string, bool) {
	b := []byte{}
	for i := 0; i < len(t); {
		c, n := one(t, i)
		if n == 0 {
			return "", false
		}
		b = append(b, c)
		i += n
	}
	return string(b), true
}

// one reads the byte that is meant at i, and how many bytes it takes; it takes none, if it is wrong.
func one(t string, i int) (byte, int) {
	c := t[i]
	if c == '"' || !shown(c) {
		return 0, 0
	}
	if c != '\\' {
		return c, 1
	}
	if i+1 >= len(t) {
		return 0, 0
	}
	switch t[i+1] {
	case '"', '\\':
		return t[i+1], 2
	case 'x':
		return coded(t, i+2)
	}
	return 0, 0
}

// coded reads the two digits behind a \x; all four bytes count.
func coded(t string, i int) (byte, int) {
	if i+2 > len(t) {
		return 0, 0
	}
	high := strings.IndexByte(hexDigits, t[i])
	low := strings.IndexByte(hexDigits, t[i+1])
	if high < 0 || low < 0 {
		return 0, 0
	}
	return byte(high*16 + low), 4
}

func appendQuoted(b []byte, c byte) []byte {
	if c == '"' || c == '\\' {
		return append(b, '\\', c)
	}
	if shown(c) {
		return append(b, c)
	}
	return append(b, '\\', 'x', hexDigits[c>>4], hexDigits[c&15])
}

// quotedEnd steps over the byte behind a \, so that this one never counts itself.
func quotedEnd(t string, at int) (int, bool) {
	for i := at + 1; i < len(t); i++ {
		switch t[i] {
		case '"':
			return i + 1, true
		case '\\':
			i++
		}
	}
	return 0, false
}

func allPlain(s string) bool {
	for i := 0; i < len(s); i++ {
		if !plainByte(s[i]) {
			return false
		}
	}
	return len(s) > 0
}

func plainByte(c byte) bool {
	switch {
	case c >= 'a' && c <= 'z', c >= 'A' && c <= 'Z', c >= '0' && c <= '9':
		return true
	}
	return strings.IndexByte("-_./:*", c) >= 0
}

// reserved tells what a text of plain bytes would be taken for: a mark, or a comment.
func reserved(s string) bool {
	return s == "inactive:" || s == "protect:" || strings.HasPrefix(s, "/*")
}

// shown: does the byte stand for itself between two "?
func shown(c byte) bool { return c >= 32 && c <= 126 }

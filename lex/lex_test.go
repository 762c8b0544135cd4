package lex

import (
	"regexp"
	"slices"
	"strings"
	"testing"

	"ferryslip/api"
	"ferryslip/word"
)

var (
	forty    = strings.Repeat("a", api.MaxWord)
	fortyOne = strings.Repeat("a", api.MaxWord+1)
)

// each calls f with every text of at most n of the pieces.
func each(pieces []string, n int, f func(s string)) {
	var grow func(s string, left int)
	grow = func(s string, left int) {
		f(s)
		if left == 0 {
			return
		}
		for _, p := range pieces {
			grow(s+p, left-1)
		}
	}
	grow("", n)
}

// marks are the bytes that mean most to a text.
var marks = strings.Split("a\"\\/*# {;\n", "")

// parts are texts that are tokens, blanks, pieces of them, or none.
var parts = []string{"a", "inactive:", "protect:", "{", "}", ";", " ", "\n", "#", "/*", "*/", `"`, `\`, `"b c"`, ",", fortyOne}

func name(at int, w string) Token  { return Token{Kind: Name, At: at, Word: w} }
func mark(at int, bit int) Token   { return Token{Kind: Mark, At: at, Bit: bit} }
func signAt(at int, k int) Token   { return Token{Kind: k, At: at} }
func list(tokens ...Token) []Token { return tokens }

func good(t *testing.T, s string, want []Token) {
	t.Helper()
	if l, n, e := All(s); n != 0 || e != api.OK || !slices.Equal(l, want) {
		t.Errorf("%.80q: %+v, %d, %d; it should be %+v", s, l, n, e, want)
	}
}

func bad(t *testing.T, s string, at int, want api.Errno) {
	t.Helper()
	if l, n, e := All(s); len(l) != 0 || n != at || e != want {
		t.Errorf("%.80q: %d tokens, %d, %d; it should be %d, %d", s, len(l), n, e, at, want)
	}
}

// P2.1: the numbers of the kinds, as the chapter tells them.
func TestKinds(t *testing.T) {
	if Name != 1 || Open != 2 || Close != 3 || End != 4 || Mark != 5 {
		t.Errorf("%d, %d, %d, %d, %d", Name, Open, Close, End, Mark)
	}
}

// P2.1: the chapter's example, and ordinary texts.
func TestAll(t *testing.T) {
	good(t, "protect: a { b; }", list(mark(0, api.Protect), name(9, "a"), signAt(11, Open), name(13, "b"), signAt(14, End), signAt(16, Close)))
	good(t, "a", list(name(0, "a")))
	good(t, "hosts{a{ip{10.0.0.1;}}}", list(name(0, "hosts"), signAt(5, Open), name(6, "a"), signAt(7, Open), name(8, "ip"), signAt(10, Open),
		name(11, "10.0.0.1"), signAt(19, End), signAt(20, Close), signAt(21, Close), signAt(22, Close)))
	good(t, "set a b;\nprotect a b;\n", list(name(0, "set"), name(4, "a"), name(6, "b"), signAt(7, End),
		name(9, "protect"), name(17, "a"), name(19, "b"), signAt(20, End)))
	good(t, "}{;;", list(signAt(0, Close), signAt(1, Open), signAt(2, End), signAt(3, End)))
	good(t, "* / - _ . : */", list(name(0, "*"), name(2, "/"), name(4, "-"), name(6, "_"), name(8, "."), name(10, ":"), name(12, "*/")))
}

// P2.1: words between two " are read, and stand beside others without a blank.
func TestAllQuoted(t *testing.T) {
	good(t, `""`, list(name(0, "")))
	good(t, `"a b"`, list(name(0, "a b")))
	good(t, `"{" "}" ";" "#" "/*" "*/"`, list(name(0, "{"), name(4, "}"), name(8, ";"), name(12, "#"), name(16, "/*"), name(21, "*/")))
	good(t, `"\"\\\x0a\xff"`, list(name(0, "\"\\\n\xff")))
	good(t, `"a""b"`, list(name(0, "a"), name(3, "b")))
	good(t, `a"b"c`, list(name(0, "a"), name(1, "b"), name(4, "c")))
	good(t, `"a\\";`, list(name(0, `a\`), signAt(5, End)))
}

// P2.1: texts without a token.
func TestAllNothing(t *testing.T) {
	for _, s := range []string{"", " ", "\t", "\n", "\r", " \t\r\n ", "#", "#\n", "# a { \" , /*", "# a\n# b\n", "##", "#\n\n#",
		"/**/", "/* */", "/***/", "/* * / */", "/*\n*/", "/* # */", "/* /* */", "/**//**/", "/*\"*/", "/*,\xff*/", "# */", " /* a */ # b", "# /* \n/* # */"} {
		good(t, s, nil)
	}
}

// P2.1: no other byte is a blank, and none begins a token but those that the chapters name.
func TestAllBytes(t *testing.T) {
	plain := "abcdefghijklmnopqrstuvwxyzABCDEFGHIJKLMNOPQRSTUVWXYZ0123456789-_./:*"
	for c := 0; c < 256; c++ {
		s := string([]byte{byte(c)})
		text := "a " + s + " b"
		switch {
		case strings.Contains(" \t\n\r", s):
			good(t, text, list(name(0, "a"), name(4, "b")))
		case s == "#":
			good(t, text, list(name(0, "a")))
		case strings.Contains("{};", s):
			good(t, text, list(name(0, "a"), signAt(2, 2+strings.Index("{};", s)), name(4, "b")))
		case strings.Contains(plain, s):
			good(t, text, list(name(0, "a"), name(2, s), name(4, "b")))
		default:
			bad(t, text, 2, api.ErrForm)
			bad(t, "a"+s, 1, api.ErrForm)
		}
	}
}

// P2.1: comments between tokens, and what looks like one and is not.
func TestAllComments(t *testing.T) {
	good(t, "a#b\nc", list(name(0, "a"), name(4, "c")))
	good(t, "a #b\rc\nd", list(name(0, "a"), name(7, "d")))
	good(t, "a # b", list(name(0, "a")))
	good(t, "{#}\n}", list(signAt(0, Open), signAt(4, Close)))
	good(t, "{/*}*/}", list(signAt(0, Open), signAt(6, Close)))
	good(t, "/*a*/b", list(name(5, "b")))
	good(t, "/*a*//*b*/c", list(name(10, "c")))
	good(t, "/*/*/a", list(name(5, "a")))
	good(t, "/*a**/b", list(name(6, "b")))
	good(t, "/*a*/*/", list(name(5, "*/")))
	good(t, "# /*\na", list(name(5, "a")))
	good(t, "/* #*/a", list(name(6, "a")))
	good(t, `"a"/*b*/`, list(name(0, "a")))
	good(t, `"#"#`, list(name(0, "#")))
	good(t, "a/*b*/", list(name(0, "a/*b*/")))
	good(t, "a/* b */", list(name(0, "a/*"), name(4, "b"), name(6, "*/")))
}

// P2.1: a comment without an end is told by its place.
func TestAllCommentsOpen(t *testing.T) {
	for s, at := range map[string]int{"/*": 0, "/*/": 0, "/* *": 0, "/* * /": 0, "a /* b": 2, "{/*": 1, "/**/ /*": 5, "/**//*/": 4,
		"# \n/*": 3, `"/*" /*`: 5, "/* \"*": 0, ";/*/ \n": 1, "inactive: /*": 10} {
		bad(t, s, at, api.ErrForm)
	}
}

// P2.1: marks stand alone, or are words.
func TestAllMarks(t *testing.T) {
	good(t, "inactive:", list(mark(0, 1)))
	good(t, "protect:", list(mark(0, 2)))
	good(t, "inactive: protect: a", list(mark(0, 1), mark(10, 2), name(19, "a")))
	good(t, "inactive:inactive: protect:inactive:", list(name(0, "inactive:inactive:"), name(19, "protect:inactive:")))
	good(t, "{inactive:;protect:}", list(signAt(0, Open), mark(1, 1), signAt(10, End), mark(11, 2), signAt(19, Close)))
	good(t, `inactive:"a"protect:`, list(mark(0, 1), name(9, "a"), mark(12, 2)))
	good(t, "protect:#", list(mark(0, 2)))
	good(t, `"inactive:" "protect:"`, list(name(0, "inactive:"), name(12, "protect:")))
	for _, s := range []string{"inactive:x", "protect:x", "inactive::", "xprotect:", "inactive", "protect", "Inactive:", "PROTECT:", "inactive:/**/"} {
		good(t, s, list(name(0, s)))
	}
	good(t, "inactive :", list(name(0, "inactive"), name(9, ":")))
}

// P2.1: what layer 1 refuses is told by its error, and its first byte.
func TestAllWords(t *testing.T) {
	good(t, forty+` "`+forty+`"`, list(name(0, forty), name(41, forty)))
	good(t, `"`+strings.Repeat(`\xff`, api.MaxWord)+`"`, list(name(0, strings.Repeat("\xff", api.MaxWord))))
	for s, at := range map[string]int{fortyOne: 0, "a " + fortyOne: 2, `{"` + fortyOne + `"`: 1, "; inactive:" + forty: 2, `"` + strings.Repeat(`\\`, 41) + `"`: 0} {
		bad(t, s, at, api.ErrLong)
	}
	for s, at := range map[string]int{`"`: 0, `"a`: 0, `a "`: 2, `a"`: 1, `"a" "`: 4, `"\"`: 0, `"\\\"`: 0, `"\y"`: 0, `ab "\q"`: 3, `"\x4G"`: 0, `"\xFF"`: 0,
		"\"\n\"": 0, "\"\x7f\"": 0, "\"\xff\"": 0, `{ "\ "`: 2, "# b\n\"": 4, `"` + fortyOne: 0, `"` + fortyOne + `\n"`: 0} {
		bad(t, s, at, api.ErrForm)
	}
}

// P2.1: bytes at which nothing can be; the first error is told, and no token beside it.
func TestAllErrors(t *testing.T) {
	for s, at := range map[string]int{",": 0, "a ,": 2, "a,": 1, "a{b;},": 5, "a # b\n+": 6, "/**/+": 4, "inactive:,": 9, "\x00": 0, "a\xc3\xa9": 1, "\\": 0, "'a'": 0,
		", " + fortyOne: 0, ", /*": 0, `, "`: 0, "/* ,": 0, "\v": 0, "\f": 0, "a\u00a0b": 1, "\ufeffa": 0} {
		bad(t, s, at, api.ErrForm)
	}
	bad(t, fortyOne+" ,", 0, api.ErrLong)
	bad(t, fortyOne+` "`, 0, api.ErrLong)
	bad(t, fortyOne+" /*", 0, api.ErrLong)
}

var (
	blanksAhead = regexp.MustCompile(`^(?:[ \t\n\r]|#[^\n]*|/\*[\s\S]*?\*/)+`)
	wordAhead   = regexp.MustCompile(`^(?:"(?:[^"\\]|\\[\s\S])*"|[-_./:*A-Za-z0-9]+)`)
)

// allByPatterns takes the chapter's words as patterns, one behind the other.
func allByPatterns(s string) ([]Token, int, api.Errno) {
	var tokens []Token
	at := 0
	for {
		at += len(blanksAhead.FindString(s[at:]))
		rest := s[at:]
		if rest == "" {
			return tokens, 0, api.OK
		}
		text := wordAhead.FindString(rest)
		if k := strings.IndexByte("{};", rest[0]); k >= 0 {
			text = rest[:1]
			tokens = append(tokens, signAt(at, Open+k))
		} else if text == "" || strings.HasPrefix(rest, "/*") {
			return nil, at, api.ErrForm
		} else if text == "inactive:" || text == "protect:" {
			tokens = append(tokens, mark(at, map[string]int{"inactive:": 1, "protect:": 2}[text]))
		} else if w, e := word.Unquote(text); e != api.OK {
			return nil, at, e
		} else {
			tokens = append(tokens, name(at, w))
		}
		at += len(text)
	}
}

// P2.1: all short texts, held against the patterns.
func TestAllShortTexts(t *testing.T) {
	check := func(s string) {
		want, place, fault := allByPatterns(s)
		if l, n, e := All(s); n != place || e != fault || !slices.Equal(l, want) {
			t.Errorf("%q: %+v, %d, %d; it should be %+v, %d, %d", s, l, n, e, want, place, fault)
		}
	}
	each(marks, 5, check)
	each(parts, 4, check)
}

// P2.1 and P1: long texts end, too.
func TestAllLong(t *testing.T) {
	l, n, e := All(strings.Repeat("a{/* b */};#\n", 10000))
	if len(l) != 40000 || n != 0 || e != api.OK || l[39999].At != 13*9999+10 {
		t.Errorf("%d tokens, %d, %d", len(l), n, e)
	}
	good(t, strings.Repeat("/**/", 100000)+"a", list(name(400000, "a")))
	bad(t, strings.Repeat("a ", 100000)+"/*"+strings.Repeat("* /", 100000), 200000, api.ErrForm)
}

// R1 and R4: asked twice, a text answers the same, in memory of its own.
func TestAllTwice(t *testing.T) {
	const s = "a { inactive: b; }"
	first, _, _ := All(s)
	kept := slices.Clone(first)
	for i := range first {
		first[i] = Token{}
	}
	good(t, s, kept)
}

// P2.2: the lines and bytes of a text.
func TestPlace(t *testing.T) {
	for _, c := range []struct {
		s               string
		at, line, place int
	}{
		{"ab\n\ncd", 0, 1, 1}, {"ab\n\ncd", 1, 1, 2}, {"ab\n\ncd", 2, 1, 3}, {"ab\n\ncd", 3, 2, 1}, {"ab\n\ncd", 4, 3, 1}, {"ab\n\ncd", 5, 3, 2},
		{"ab\n\ncd", 6, 3, 3}, {"ab\n\ncd", 7, 3, 3}, {"ab\n\ncd", 1<<63 - 1, 3, 3}, {"ab\n\ncd", -1, 1, 1}, {"ab\n\ncd", -1 << 63, 1, 1},
		{"", 0, 1, 1}, {"", -1, 1, 1}, {"", 1, 1, 1}, {"", 1<<63 - 1, 1, 1}, {"", -1 << 63, 1, 1},
		{"\n", -1, 1, 1}, {"\n", 0, 1, 1}, {"\n", 1, 2, 1}, {"\n", 2, 2, 1}, {"\n\n\n", 2, 3, 1}, {"\n\n\n", 3, 4, 1},
		{"a\n", 1, 1, 2}, {"a\n", 2, 2, 1}, {"a\n", 3, 2, 1}, {"a\r\nb", 2, 1, 3}, {"a\rb", 2, 1, 3}, {"a\tb", 2, 1, 3}, {"\u00e9b", 2, 1, 3}, {"\xff\x00b", 2, 1, 3},
		{"a # b\n+", 6, 2, 1}, {"abc", 3, 1, 4}, {"abc", 4, 1, 4},
	} {
		if line, place := Place(c.s, c.at); line != c.line || place != c.place {
			t.Errorf("%q at %d: %d, %d", c.s, c.at, line, place)
		}
	}
}

// P2.2: of all short texts each byte's place is one behind the one ahead, or begins a line.
func TestPlaceSteps(t *testing.T) {
	each([]string{"a", "\n", "\r", "\xff"}, 6, func(s string) {
		line, place := 1, 1
		for at := 0; at <= len(s)+1; at++ {
			if l, p := Place(s, at); l != line || p != place {
				t.Errorf("%q at %d: %d, %d; it should be %d, %d", s, at, l, p, line, place)
			}
			if at < len(s) && s[at] == '\n' {
				line, place = line+1, 1
			} else if at < len(s) {
				place++
			}
		}
	})
}

// written writes tokens one blank apart.
func written(tokens []Token) string {
	var texts []string
	for _, k := range tokens {
		switch k.Kind {
		case Name:
			text, _ := word.Quote(k.Word)
			texts = append(texts, text)
		case Mark:
			texts = append(texts, []string{1: "inactive:", 2: "protect:"}[k.Bit])
		default:
			texts = append(texts, "{};"[k.Kind-Open:][:1])
		}
	}
	return strings.Join(texts, " ")
}

// moved puts each token n bytes further.
func moved(tokens []Token, n int) []Token {
	out := slices.Clone(tokens)
	for i := range out {
		out[i].At += n
	}
	return out
}

func unplaced(tokens []Token) []Token {
	out := slices.Clone(tokens)
	for i := range out {
		out[i].At = 0
	}
	return out
}

// P2.3: tokens, written one blank apart, are the same tokens.
func TestWrittenTokens(t *testing.T) {
	check := func(s string) {
		l, _, e := All(s)
		if e != api.OK {
			return
		}
		back, n, e := All(written(l))
		if n != 0 || e != api.OK || !slices.Equal(unplaced(back), unplaced(l)) {
			t.Errorf("%q, written %q: %+v, %d, %d", s, written(l), back, n, e)
		}
	}
	each(marks, 5, check)
	each(parts, 4, check)
	check(`"" "inactive:" "protect:" "/*" "\x00\xff\"\\" inactive: { } ; ` + forty)
}

// P2.3: blanks and comments ahead turn nothing but places, of errors too.
func TestBlanksAhead(t *testing.T) {
	ahead := []string{" ", "\t", "\n", "\r", "\r\n \t", "#\n", "# { \" /*\n", "/**/", "/* } # \" */", "/**/ # a\n"}
	check := func(s string) {
		l, n, e := All(s)
		for _, b := range ahead {
			place := 0
			if e != api.OK {
				place = n + len(b)
			}
			if k, m, f := All(b + s); m != place || f != e || !slices.Equal(k, moved(l, len(b))) {
				t.Errorf("%q behind %q: %+v, %d, %d", s, b, k, m, f)
			}
		}
	}
	each(marks, 4, check)
	each(parts, 3, check)
}

// P2.3: blanks and comments behind turn nothing.
func TestBlanksBehind(t *testing.T) {
	behind := []string{" ", "\t", "\n", "\r", "\r\n \t", "#", "# { \" /*", "#\n", " /**/", "\n/* } # \" */", " /**/ # a\n"}
	check := func(s string) {
		l, n, e := All(s)
		for _, b := range behind {
			// Of what has no end, a comment's bytes may make one; blanks alone may not.
			if e != api.OK && strings.Trim(b, " \t\r\n") != "" {
				continue
			}
			if k, m, f := All(s + b); m != n || f != e || !slices.Equal(k, l) {
				t.Errorf("%q ahead of %q: %+v, %d, %d", s, b, k, m, f)
			}
		}
	}
	each(marks, 4, check)
	each(parts, 3, check)
}

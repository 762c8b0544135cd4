package word

import (
	"strings"
	"testing"

	"ferryslip/api"
)

const plainBytes = "abcdefghijklmnopqrstuvwxyzABCDEFGHIJKLMNOPQRSTUVWXYZ0123456789-_./:*"

var (
	forty    = strings.Repeat("a", api.MaxWord)
	fortyOne = strings.Repeat("a", api.MaxWord+1)
)

// each calls f with every text of at most n bytes of the alphabet.
func each(alphabet string, n int, f func(s string)) {
	var grow func(s string)
	grow = func(s string) {
		f(s)
		if len(s) == n {
			return
		}
		for i := 0; i < len(alphabet); i++ {
			grow(s + alphabet[i:i+1])
		}
	}
	grow("")
}

// P1.1: which words are plain.
func TestPlain(t *testing.T) {
	for _, s := range []string{"a", "vni-5", "10.1.0.0/16", "*", "/", "*/", "a/*", "//*", "*/*", ":", "-", "_", ".",
		"inactive", "protect", "inactive::", "protect::", "Inactive:", "PROTECT:", "xinactive:", "xprotect:", "set", forty} {
		if !Plain(s) {
			t.Errorf("%q is not plain", s)
		}
	}
	for _, s := range []string{"", " ", "a b", " a", "a ", "\"", "\"a\"", "a\\", "inactive:", "protect:", "/*", "/*a", "/**/",
		"a\n", "a\x00", "\x1f", "\x7f", "\xff", "{", "}", ";", "#", "\u00e9", fortyOne, strings.Repeat("a", 1000)} {
		if Plain(s) {
			t.Errorf("%q is plain", s)
		}
	}
}

// P1.1: of all single bytes, those that the chapter names are plain.
func TestPlainBytes(t *testing.T) {
	for c := 0; c < 256; c++ {
		s := string([]byte{byte(c)})
		want := strings.Contains(plainBytes, s)
		if Plain(s) != want || Plain("a"+s) != want || Plain(s+"a") != want {
			t.Errorf("byte %d: %v, %v, %v", c, Plain(s), Plain("a"+s), Plain(s+"a"))
		}
	}
}

// P1.1: as it is written.
func TestQuote(t *testing.T) {
	for _, c := range []struct{ word, text string }{
		{"a", "a"}, {"vni-5", "vni-5"}, {"a b", `"a b"`}, {"", `""`}, {" ", `" "`},
		{"inactive:", `"inactive:"`}, {"protect:", `"protect:"`}, {"inactive", "inactive"}, {"protect:a", "protect:a"},
		{"/*", `"/*"`}, {"/*a", `"/*a"`}, {"a/*", "a/*"}, {"*/", "*/"},
		{`"`, `"\""`}, {`\`, `"\\"`}, {`\"`, `"\\\""`}, {`a\\b`, `"a\\\\b"`}, {`\x41`, `"\\x41"`},
		{"\x1f", `"\x1f"`}, {"\x20", `" "`}, {"\x7e", `"~"`}, {"\x7f", `"\x7f"`}, {"\xff", `"\xff"`}, {"\x00", `"\x00"`},
		{"\n\t\r", `"\x0a\x09\x0d"`}, {"\u00e9", `"\xc3\xa9"`}, {"\xab\xcd", `"\xab\xcd"`}, {"{};#", `"{};#"`}, {"'", `"'"`},
		{forty, forty}, {strings.Repeat(" ", 40), `"` + strings.Repeat(" ", 40) + `"`},
		{strings.Repeat("\xff", 40), `"` + strings.Repeat(`\xff`, 40) + `"`},
	} {
		if text, e := Quote(c.word); text != c.text || e != api.OK {
			t.Errorf("%q: %q, %d", c.word, text, e)
		}
	}
}

// P1.1: with its error a word has no text.
func TestQuoteLong(t *testing.T) {
	for _, s := range []string{fortyOne, strings.Repeat(" ", 41), strings.Repeat("\xff", 41), "/*" + forty, strings.Repeat("a", 100000)} {
		if text, e := Quote(s); text != "" || e != api.ErrLong {
			t.Errorf("%d bytes: %q, %d", len(s), text, e)
		}
	}
}

// P1.2: the end of a word.
func TestScan(t *testing.T) {
	for _, c := range []struct {
		text string
		at   int
		end  int
		ok   bool
	}{
		{"ab c", 0, 2, true}, {"ab c", 1, 2, true}, {"ab c", 2, 0, false}, {"ab c", 3, 4, true}, {"ab c", 4, 0, false},
		{"a{", 0, 1, true}, {"a;", 0, 1, true}, {"a;", 1, 0, false}, {`a"b"`, 0, 1, true}, {`a"b"`, 1, 4, true}, {`a\`, 0, 1, true}, {`a\`, 1, 0, false},
		{"inactive: a", 0, 9, true}, {"/*a*/", 0, 5, true}, {"a#b", 0, 1, true}, {plainBytes + " ", 0, len(plainBytes), true},
		{`""`, 0, 2, true}, {`""`, 1, 0, false}, {`"a" "b"`, 0, 3, true}, {`"a" "b"`, 2, 5, true}, {`"a" "b"`, 4, 7, true}, {`"a"b`, 0, 3, true},
		{`"`, 0, 0, false}, {`"a`, 0, 0, false}, {"\"\n\xff\" a", 0, 4, true}, {`"\y"`, 0, 4, true},
		{`"\"`, 0, 0, false}, {`"\""`, 0, 4, true}, {`"\\"`, 0, 4, true}, {`"\\\"`, 0, 0, false}, {`"\\\""`, 0, 6, true}, {`"\\\\" x`, 0, 6, true},
		{`"a\\\\\"b" c`, 0, 10, true}, {`\"a"`, 1, 4, true}, {`\"a"`, 0, 0, false}, {`"\\a\"" `, 0, 7, true}, {`"a\`, 0, 0, false},
		{"a", -1, 0, false}, {"a", 1, 0, false}, {"a", 2, 0, false}, {"", 0, 0, false}, {"", -1, 0, false}, {"", 1, 0, false},
		{"a", -1 << 63, 0, false}, {"a", 1<<63 - 1, 0, false}, {`"a"`, -1, 0, false}, {`"a"`, 3, 0, false},
		{strings.Repeat("a", 1000), 0, 1000, true}, {`"` + strings.Repeat(" ", 1000) + `"`, 0, 1002, true},
	} {
		if end, ok := Scan(c.text, c.at); end != c.end || ok != c.ok {
			t.Errorf("%q at %d: %d, %v", c.text, c.at, end, ok)
		}
	}
}

// P1.2: of all single bytes, those of plain words, and no others, are a word's.
func TestScanBytes(t *testing.T) {
	for c := 0; c < 256; c++ {
		s := string([]byte{'a', byte(c), 'b'})
		inside := strings.IndexByte(plainBytes, byte(c)) >= 0
		end, ok := Scan(s, 0)
		if !ok || inside && end != 3 || !inside && end != 1 {
			t.Errorf("byte %d within: %d, %v", c, end, ok)
		}
		end, ok = Scan(s, 1)
		if ok != inside || inside && end != 3 || !inside && end != 0 {
			t.Errorf("byte %d ahead: %d, %v", c, end, ok)
		}
	}
}

// scanByRuns takes the chapter's words as they stand: it counts the \ ahead of each ".
func scanByRuns(t string, at int) (int, bool) {
	for i := at + 1; i < len(t); i++ {
		run := 0
		for i-1-run > at && t[i-1-run] == '\\' {
			run++
		}
		if t[i] == '"' && run%2 == 0 {
			return i + 1, true
		}
	}
	return 0, false
}

// P1.2: of all short texts the " that ends a word has no \ ahead that counts.
func TestScanRuns(t *testing.T) {
	each(`"\x `, 7, func(s string) {
		s = `\"` + s
		want, wantOK := scanByRuns(s, 1)
		if end, ok := Scan(s, 1); end != want || ok != wantOK {
			t.Errorf("%q: %d, %v; it should be %d, %v", s, end, ok, want, wantOK)
		}
	})
}

// P1.3: the word that is meant.
func TestUnquote(t *testing.T) {
	for _, c := range []struct{ text, word string }{
		{"a", "a"}, {"vni-5", "vni-5"}, {"10.1.0.0/16", "10.1.0.0/16"}, {"*", "*"}, {"a/*", "a/*"}, {"inactive", "inactive"}, {"protect:x", "protect:x"},
		{`""`, ""}, {`"a b"`, "a b"}, {`"a"`, "a"}, {`"inactive:"`, "inactive:"}, {`"protect:"`, "protect:"}, {`"/*"`, "/*"}, {`"/*a"`, "/*a"},
		{`"\""`, `"`}, {`"\\"`, `\`}, {`"\\\""`, `\"`}, {`"\\x41"`, `\x41`}, {`"\x41b"`, "Ab"}, {`"\x22\x5c"`, `"\`}, {`"\x5c\x22"`, `\"`},
		{`"\x00\x0f\x9a\xf0\xff"`, "\x00\x0f\x9a\xf0\xff"}, {`" ~"`, " ~"}, {`"\x7f"`, "\x7f"}, {`"{};#'"`, "{};#'"}, {`"x"`, "x"}, {`"\x000"`, "\x000"},
		{forty, forty}, {`"` + forty + `"`, forty}, {`"` + strings.Repeat(`\xff`, 40) + `"`, strings.Repeat("\xff", 40)},
		{`"` + strings.Repeat(`\\`, 40) + `"`, strings.Repeat(`\`, 40)},
	} {
		if word, e := Unquote(c.text); word != c.word || e != api.OK {
			t.Errorf("%q: %q, %d", c.text, word, e)
		}
	}
}

// P1.3: texts that are no word.
func TestUnquoteForm(t *testing.T) {
	for _, s := range []string{"", " ", "a b", " a", "a ", "a\n", "\xff", "{", ";", "a;", `a\`, `\"a\"`, "'a'", "\u00e9",
		"inactive:", "protect:", "/*", "/*a", "/**/", "/*" + fortyOne,
		`"`, `"a`, `a"`, `a"b"`, `"a"b`, `"a"b"`, `"a""b"`, `"""`, `"a" `, ` "a"`,
		`"\"`, `"\\\"`, `"\`, `"a\`, `"\y"`, `"\n"`, `"\X41"`, `"\ "`, `"\'"`,
		`"\x"`, `"\x4"`, `"\x4G"`, `"\xg4"`, `"\x4A"`, `"\xA4"`, `"\xFF"`, `"\x 4"`, `"\x4 "`, `"\x4\x41"`, `"\x\x41"`, `"\x4`, `"\x41`, `"\x4/"`, `"\x4:"`, "\"\\x4`\"", `"\x4@"`,
		"\"\n\"", "\"\x00\"", "\"\x1f\"", "\"\x7f\"", "\"\x80\"", "\"\xff\"", "\"\t\"", "\"\u00e9\"",
		fortyOne + " ", `"` + fortyOne + `\"`, `"` + fortyOne, `"` + fortyOne + "\n\""} {
		if word, e := Unquote(s); word != "" || e != api.ErrForm {
			t.Errorf("%q: %q, %d", s, word, e)
		}
	}
}

// P1.3: what is meant, and not what is written, may be too long.
func TestUnquoteLong(t *testing.T) {
	for _, s := range []string{fortyOne, `"` + fortyOne + `"`, `"` + strings.Repeat(`\xff`, 41) + `"`, `"` + strings.Repeat(`\"`, 41) + `"`,
		`"/*` + forty + `"`, "inactive:" + forty, strings.Repeat("a", 100000)} {
		if word, e := Unquote(s); word != "" || e != api.ErrLong {
			t.Errorf("%q: %q, %d", s, word, e)
		}
	}
}

// P1.3: of all bytes between two ", those from 32 to 126 but " and \ stand for themselves, and no others.
func TestUnquoteBytes(t *testing.T) {
	for c := 0; c < 256; c++ {
		s := string([]byte{byte(c)})
		word, e := Unquote(`"` + s + `"`)
		if c >= 32 && c <= 126 && c != '"' && c != '\\' {
			if word != s || e != api.OK {
				t.Errorf("byte %d: %q, %d", c, word, e)
			}
		} else if word != "" || e != api.ErrForm {
			t.Errorf("byte %d: %q, %d", c, word, e)
		}
		escaped := c == '"' || c == '\\'
		if word, e = Unquote(`"\` + s + `"`); escaped && (word != s || e != api.OK) || !escaped && (word != "" || e != api.ErrForm) {
			t.Errorf("\\ and byte %d: %q, %d", c, word, e)
		}
	}
}

// P1.3: of all pairs behind a \x, those of two small digits of base 16 are a byte, and no others.
func TestUnquoteDigits(t *testing.T) {
	const digits = "0123456789abcdef"
	for a := 0; a < 256; a++ {
		for b := 0; b < 256; b++ {
			high, low := strings.IndexByte(digits, byte(a)), strings.IndexByte(digits, byte(b))
			want, wantErr := "", api.ErrForm
			if high >= 0 && low >= 0 {
				want, wantErr = string([]byte{byte(16*high + low)}), api.OK
			}
			if word, e := Unquote(`"\x` + string([]byte{byte(a), byte(b)}) + `"`); word != want || e != wantErr {
				t.Errorf("%d, %d: %q, %d", a, b, word, e)
			}
		}
	}
}

// back fails, unless the word is written as one text, that is scanned whole, and read as that word.
func back(t *testing.T, s string) string {
	t.Helper()
	text, e := Quote(s)
	if e != api.OK {
		t.Fatalf("%q is not written: %d", s, e)
	}
	if word, e := Unquote(text); word != s || e != api.OK {
		t.Errorf("%q: written %q, read %q, %d", s, text, word, e)
	}
	if (text == s) != Plain(s) {
		t.Errorf("%q: written %q, plain: %v", s, text, Plain(s))
	}
	for _, around := range []string{"", " ", "{", ";", "\n"} {
		if end, ok := Scan(around+text+around, len(around)); end != len(around)+len(text) || !ok {
			t.Errorf("%q: written %q, scanned %d, %v", s, text, end, ok)
		}
	}
	return text
}

// P1.4: what is written is read, whatever its bytes are, and no two words are written alike.
func TestWrittenIsRead(t *testing.T) {
	from := map[string]string{}
	try := func(s string) {
		text := back(t, s)
		if other, there := from[text]; there && other != s {
			t.Errorf("%q and %q are both written %q", s, other, text)
		}
		from[text] = s
	}
	for a := 0; a < 256; a++ {
		try(strings.Repeat(string([]byte{byte(a)}), api.MaxWord))
		for b := 0; b < 256; b++ {
			try(string([]byte{byte(a), byte(b)}))
		}
	}
	each("\"\\x4a/* \x1f\xff", 4, try)
	for n := 0; n <= api.MaxWord; n++ {
		try(strings.Repeat("b", n))
		try(strings.Repeat(`\`, n))
		try(strings.Repeat(`"\`, n/2))
	}
	for _, s := range []string{"inactive:", "protect:", "/*", "/*a*/", "inactive:a", "aprotect:"} {
		try(s)
	}
}

// P1.4: whatever is read is written again, and read as the same word.
func TestReadIsWritten(t *testing.T) {
	each("\"\\x4a/* ", 6, func(s string) {
		if word, e := Unquote(s); e == api.OK {
			back(t, word)
		}
	})
}

// P1, at all arguments: none panics, and an error leaves nothing beside it.
func TestNoneBesideErrors(t *testing.T) {
	each("\"\\x4 \xff", 5, func(s string) {
		if word, e := Unquote(s); e != api.OK && (word != "" || e != api.ErrForm) {
			t.Errorf("Unquote %q: %q, %d", s, word, e)
		}
		for at := -2; at <= len(s)+2; at++ {
			end, ok := Scan(s, at)
			if !ok && end != 0 || ok && (end <= at || end > len(s)) {
				t.Errorf("Scan %q at %d: %d, %v", s, at, end, ok)
			}
		}
	})
}

package parse

import (
	"regexp"
	"slices"
	"strings"
	"testing"

	"ferryslip/api"
	"ferryslip/lex"
	"ferryslip/show"
	"ferryslip/tree"
	"ferryslip/word"
)

var (
	forty    = strings.Repeat("a", api.MaxWord)
	fortyOne = strings.Repeat("a", api.MaxWord+1)
)

// line is one without marks.
func line(depth int, w string) api.Line { return api.Line{Depth: depth, Word: w} }

func list(t ...api.Line) []api.Line { return t }

// chain has n lines, each under the one ahead.
func chain(n int) []api.Line {
	var t []api.Line
	for i := range n {
		t = append(t, line(i, "x"))
	}
	return t
}

// code is the i-th of words that rise.
func code(i int) string { return string([]byte{'a' + byte(i/26), 'a' + byte(i%26)}) }

// flat has n lines of Depth 0.
func flat(n int) []api.Line {
	var t []api.Line
	for i := range n {
		t = append(t, line(0, code(i)))
	}
	return t
}

// flatText is the text of flat, on one line, each statement of three bytes.
func flatText(n int) string {
	s := ""
	for i := range n {
		s += code(i) + ";"
	}
	return s
}

// open is n statements, each within the one ahead, none of them closed, each of two bytes.
func open(n int) string { return strings.Repeat("x{", n) }

func good(t *testing.T, s string, want []api.Line) {
	t.Helper()
	if x, at, e := Tree(s); at != 0 || e != api.OK || !slices.Equal(x, want) {
		t.Errorf("%.80q: %v, %d, %d; it should be %v", s, x, at, e, want)
	}
}

func bad(t *testing.T, s string, place int, want api.Errno) {
	t.Helper()
	if x, at, e := Tree(s); len(x) != 0 || at != place || e != want {
		t.Errorf("%.80q: %d lines, %d, %d; it should be %d, %d", s, len(x), at, e, place, want)
	}
}

// P5.1: the chapter's examples, and ordinary texts.
func TestTree(t *testing.T) {
	good(t, "b; a { c; }", list(line(0, "a"), line(1, "c"), line(0, "b")))
	bad(t, "a; a;", 3, api.ErrThere)
	good(t, "hosts { a { ip { 10.0.0.1; } } }", list(line(0, "hosts"), line(1, "a"), line(2, "ip"), line(3, "10.0.0.1")))
	good(t, "a{b{c;}d;}e;", list(line(0, "a"), line(1, "b"), line(2, "c"), line(1, "d"), line(0, "e")))
	good(t, "a { b { c; } } d { e; }", list(line(0, "a"), line(1, "b"), line(2, "c"), line(0, "d"), line(1, "e")))
}

// P5.1: no statement, one, and one with nothing between its Open and its Close.
func TestTreeSmall(t *testing.T) {
	for _, s := range []string{"", " ", "\n\t\r ", "#", "# a;", "# a; }\n", "/**/", "/* a { */ # }"} {
		good(t, s, nil)
	}
	good(t, "a;", list(line(0, "a")))
	good(t, "a{}", list(line(0, "a")))
	good(t, " a { } ", list(line(0, "a")))
	good(t, "a { b { } c; } d { }", list(line(0, "a"), line(1, "b"), line(1, "c"), line(0, "d")))
}

// P5.1: each mark, both, in either order, on a line alone and on one that has others under it.
func TestTreeMarks(t *testing.T) {
	for text, mark := range map[string]int{"": 0, "inactive: ": 1, "protect: ": 2, "inactive: protect: ": 3, "protect: inactive: ": 3, "protect:\n/**/inactive: # a\n": 3} {
		good(t, text+"a;", list(api.Line{Word: "a", Mark: mark}))
		good(t, text+"a { b; }", list(api.Line{Word: "a", Mark: mark}, line(1, "b")))
		good(t, "a { "+text+"b; }", list(line(0, "a"), api.Line{Depth: 1, Word: "b", Mark: mark}))
		good(t, text+"a { "+text+"b; } c;", list(api.Line{Word: "a", Mark: mark}, api.Line{Depth: 1, Word: "b", Mark: mark}, line(0, "c")))
		good(t, text+"b; a;", list(line(0, "a"), api.Line{Word: "b", Mark: mark}))
		good(t, text+"a { } b;", list(api.Line{Word: "a", Mark: mark}, line(0, "b")))
		good(t, text+`"a b" { "" { `+text+`c; } }`, list(api.Line{Word: "a b", Mark: mark}, line(1, ""), api.Line{Depth: 2, Word: "c", Mark: mark}))
	}
}

// P5.1: words that are written quoted, and the longest ones.
func TestTreeWords(t *testing.T) {
	for text, w := range map[string]string{
		`""`: "", `"a b"`: "a b", `" "`: " ", `"inactive:"`: "inactive:", `"protect:"`: "protect:", `"/*"`: "/*", `"#"`: "#", `"{"`: "{", `"}"`: "}", `";"`: ";",
		`"\""`: `"`, `"\\"`: `\`, `"\x0a"`: "\n", `"\x00\xff"`: "\x00\xff", `"a"`: "a", `"\x61"`: "a", "inactive": "inactive", "protect:x": "protect:x",
		"10.1.0.0/16": "10.1.0.0/16", "*": "*", "*/": "*/", forty: forty, `"` + forty + `"`: forty, `"` + strings.Repeat(`\xff`, 40) + `"`: strings.Repeat("\xff", 40),
	} {
		good(t, text+";", list(line(0, w)))
		good(t, "protect: "+text+"{inactive: "+text+";}", list(api.Line{Word: w, Mark: 2}, api.Line{Depth: 1, Word: w, Mark: 1}))
	}
}

// P5.1: siblings, and their parts with them, stand in the order of their Words' bytes, wherever they stood.
func TestTreeOrder(t *testing.T) {
	good(t, `b; B; "\xff"; a; ""; aa; -; 10; 9; "a b"; "\x00";`, list(line(0, ""), line(0, "\x00"), line(0, "-"), line(0, "10"), line(0, "9"), line(0, "B"),
		line(0, "a"), line(0, "a b"), line(0, "aa"), line(0, "b"), line(0, "\xff")))
	good(t, "c { z; y { q; p; } x; } b { a; } a { d; }", list(line(0, "a"), line(1, "d"), line(0, "b"), line(1, "a"), line(0, "c"),
		line(1, "x"), line(1, "y"), line(2, "p"), line(2, "q"), line(1, "z")))
	good(t, `aa { a; } a { z { } "" { } }`, list(line(0, "a"), line(1, ""), line(1, "z"), line(0, "aa"), line(1, "a")))
	good(t, "b { inactive: d; c; } protect: a;", list(api.Line{Word: "a", Mark: 2}, line(0, "b"), line(1, "c"), api.Line{Depth: 1, Word: "d", Mark: 1}))
}

// P5.1: comments and blanks stand between any two tokens.
func TestTreeComments(t *testing.T) {
	good(t, "# a\ninactive: /* ; */protect:#\na #{\n{/* } */ b;/**/}/* ; */c#;\n;#", list(api.Line{Word: "a", Mark: 3}, line(1, "b"), line(0, "c")))
	for _, between := range []string{" ", "\n", "\t\r\n", "#\n", "# } ; \"\n", " /**/ ", " /* a { ; \n*/ "} {
		s := strings.Join([]string{"", "b", "{", "protect:", "inactive:", "a", ";", "}", "a", "{", "}", ""}, between)
		good(t, s, list(line(0, "a"), line(0, "b"), api.Line{Depth: 1, Word: "a", Mark: 3}))
	}
}

// P5.1: statements within statements, up to the greatest Depth, and one more.
func TestTreeDeep(t *testing.T) {
	for n := 1; n <= api.MaxDepth; n++ {
		good(t, open(n)+strings.Repeat("}", n), chain(n))
		good(t, open(n-1)+"x;"+strings.Repeat("}", n-1), chain(n))
		good(t, open(n-1)+"x;y;"+strings.Repeat("}", n-1)+"z;", append(append(chain(n), line(n-1, "y")), line(0, "z")))
	}
	full := open(api.MaxDepth)
	for _, behind := range []string{"x;", "x{}", "x", "x;}", "x{x;", `"";`, "x x", "x}"} {
		bad(t, full+behind, 32, api.ErrDeep)
		bad(t, full+" inactive: /**/ protect: "+behind, 57, api.ErrDeep)
		bad(t, "a{}b;"+full+behind, 37, api.ErrDeep)
	}
	bad(t, open(15)+"y{}x{x;", 35, api.ErrDeep)
	good(t, open(15)+"y{}x{}"+strings.Repeat("}", 15), append(chain(16), line(15, "y")))
	bad(t, strings.Repeat("x{", 100000), 32, api.ErrDeep)
}

// P5.1: a sibling ahead that has the Word, however it is written, marked or filled; others may have it.
func TestTreeThere(t *testing.T) {
	for s, at := range map[string]int{
		"a; a;": 3, "a; b; a;": 6, "a;a": 2, "a{}a{}": 3, "a{b;}a;": 5, "a { b; c; b; }": 10, "a { b { c; } } a { b; }": 15, "b; a { c { d; d; } }": 14,
		`a;"a";`: 2, `"a"; "\x61"`: 5, `"";"";`: 3, `"a b"; c; "a b" { }`: 10, "inactive: a; a;": 13, "a; protect: inactive: a;": 22, "a; inactive: a": 13,
		"c; b; a; b;": 9, "a { a; b { a; a; } }": 14, "a { a; } a;": 9, "a{}b{a{}a": 8,
	} {
		bad(t, s, at, api.ErrThere)
	}
	good(t, "a { a { a; } } b { a; }", list(line(0, "a"), line(1, "a"), line(2, "a"), line(0, "b"), line(1, "a")))
	good(t, "a { b; } b { a; } A { b; a; }", list(line(0, "A"), line(1, "a"), line(1, "b"), line(0, "a"), line(1, "b"), line(0, "b"), line(1, "a")))
	good(t, `a { b { c; } } "a b" { c; }`, list(line(0, "a"), line(1, "b"), line(2, "c"), line(0, "a b"), line(1, "c")))
	good(t, "a { b; } c { d; b; }", list(line(0, "a"), line(1, "b"), line(0, "c"), line(1, "b"), line(1, "d")))
}

// P5.1: as many lines as there may be, wherever they stand, and one more.
func TestTreeLong(t *testing.T) {
	full := flatText(api.MaxLines)
	good(t, full, flat(api.MaxLines))
	good(t, flatText(199)+"x{}", append(flat(199), line(0, "x")))
	bad(t, full+"x;", 600, api.ErrLong)
	bad(t, full+"x", 600, api.ErrLong)
	bad(t, full+" protect: x{}", 610, api.ErrLong)
	bad(t, flatText(300), 600, api.ErrLong)
	bad(t, flatText(199)+"x{y;}", 599, api.ErrLong)
	bad(t, "x{"+flatText(199)+"} y;", 601, api.ErrLong)
	good(t, "x{"+flatText(199)+"}", append(list(line(0, "x")), deeper(flat(199))...))
}

// deeper puts lines one Depth lower.
func deeper(t []api.Line) []api.Line {
	var out []api.Line
	for _, l := range t {
		l.Depth++
		out = append(out, l)
	}
	return out
}

// P5.1: of several errors of one Name, ErrDeep goes ahead of all, and ErrThere ahead of ErrLong.
func TestTreeBoth(t *testing.T) {
	const closed = "}}}}}}}}}}}}}}}}"
	full := flatText(184) + open(16)
	good(t, full+closed, append(flat(184), chain(16)...))
	bad(t, full+"x;", 584, api.ErrDeep)
	bad(t, full+"}x;", 585, api.ErrThere)
	bad(t, full+"}y;", 585, api.ErrLong)
	bad(t, full+closed+"x;", 600, api.ErrThere)
	bad(t, full+closed+"aa;", 600, api.ErrThere)
	bad(t, full+closed+"y;", 600, api.ErrLong)
	bad(t, flatText(200)+"hr;", 600, api.ErrThere)
}

// spots are texts, each with the texts of one token that can go on behind it; all others can't.
var spots = map[string][]string{
	"":                      {"inactive:", "protect:", "q"},
	"a;":                    {"inactive:", "protect:", "q"},
	"a{}":                   {"inactive:", "protect:", "q"},
	"a{":                    {"inactive:", "protect:", "q", "}"},
	"a{b;":                  {"inactive:", "protect:", "q", "}"},
	"a{b{}":                 {"inactive:", "protect:", "q", "}"},
	"inactive: a{b{c;}":     {"inactive:", "protect:", "q", "}"},
	"inactive: ":            {"protect:", "q"},
	"protect: ":             {"inactive:", "q"},
	"a{protect: ":           {"inactive:", "q"},
	"a;inactive: ":          {"protect:", "q"},
	"inactive: protect: ":   {"q"},
	"protect: inactive: ":   {"q"},
	"a{protect: inactive: ": {"q"},
	"a ":                    {"{", ";"},
	"a{b ":                  {"{", ";"},
	"inactive: a ":          {"{", ";"},
	"protect: inactive: a ": {"{", ";"},
	"a;b ":                  {"{", ";"},
}

// P5.1: at each place each kind of token goes on, or is told with its place.
func TestTreeForm(t *testing.T) {
	for s, next := range spots {
		for _, k := range []string{"inactive:", "protect:", "q", `"q r"`, "{", "}", ";"} {
			goes := slices.Contains(next, k) || k == `"q r"` && slices.Contains(next, "q")
			for _, behind := range []string{"", " ", ";", " ; }", " q", "}", "{{", " inactive: inactive:"} {
				_, at, e := Tree(s + k + behind)
				if goes && e == api.ErrForm && at < len(s)+len(k) {
					t.Errorf("%q: the %s goes on: %d", s+k+behind, k, at)
				}
				if !goes {
					bad(t, s+k+behind, len(s), api.ErrForm)
					bad(t, s+"/* } */ "+k+behind, len(s)+8, api.ErrForm)
				}
			}
		}
	}
	bad(t, "inactive: protect: a{};", 22, api.ErrForm)
	bad(t, "a;}", 2, api.ErrForm)
	bad(t, "a b ", 2, api.ErrForm)
	bad(t, "a { b; } }", 9, api.ErrForm)
	bad(t, "inactive: inactive: a;", 10, api.ErrForm)
	bad(t, "protect: inactive: protect: a;", 19, api.ErrForm)
	bad(t, "a inactive: ;", 2, api.ErrForm)
}

// P5.1: where a token is missing, the place is the text's length, blanks and comments with it.
func TestTreeMissing(t *testing.T) {
	for _, s := range []string{"a", "a;b", "inactive:", "protect:", "inactive: protect:", "inactive: a", "a{", "a{b", "a{b;", "a{b{}", "a{b{", "a{b{}c", "a { protect: ", "a{inactive: b",
		`""`, forty, open(1), open(15), open(16), open(15) + "x;", flatText(199) + "x", flatText(199) + "x{"} {
		for _, behind := range []string{"", " ", "\n\n", " # ;", " /* } */", "\n# }\n "} {
			bad(t, s+behind, len(s+behind), api.ErrForm)
		}
	}
}

// P5.1: layer 2's errors are told ahead of all others, wherever they stand.
func TestTreeLex(t *testing.T) {
	for s, at := range map[string]int{",": 0, "a; ,": 3, "/*": 0, "a { /* } ": 4, `"`: 0, `a; "b;`: 3, `"\y";`: 0, "\xff": 0, "a b ,": 4, "} ,": 2, "a; a; /*": 6, `a "`: 2,
		"a { ,": 4, open(17) + ",": 34, flatText(201) + ",": 603, ", } a a": 0} {
		bad(t, s, at, api.ErrForm)
	}
	for s, at := range map[string]int{fortyOne + ";": 0, "a; " + fortyOne + ";": 3, `a { "` + fortyOne + `"; }`: 4, "} " + fortyOne: 2, "a; a; " + fortyOne: 6, open(17) + fortyOne: 34,
		fortyOne + " ,": 0, flatText(201) + fortyOne: 603} {
		bad(t, s, at, api.ErrLong)
	}
}

// P5.1: of several errors in one text the first one is told.
func TestTreeFirst(t *testing.T) {
	bad(t, "a; } a;", 3, api.ErrForm)
	bad(t, "a; a; }", 3, api.ErrThere)
	bad(t, "a; a", 3, api.ErrThere)
	bad(t, "a a; a;", 2, api.ErrForm)
	bad(t, open(16)+"x; } } }", 32, api.ErrDeep)
	bad(t, open(16)+";x;", 32, api.ErrForm)
	bad(t, "a; a{ "+open(16), 3, api.ErrThere)
	bad(t, open(17)+" a; a;", 32, api.ErrDeep)
	bad(t, flatText(200)+"; x;", 600, api.ErrForm)
	bad(t, flatText(200)+"inactive: ; x;", 610, api.ErrForm)
	bad(t, flatText(200)+"x x;", 600, api.ErrLong)
	bad(t, flatText(100)+"aa;"+flatText(200), 300, api.ErrThere)
	bad(t, "a { b; b; } a; ;", 7, api.ErrThere)
	bad(t, "inactive: } a; a;", 10, api.ErrForm)
}

// letters are tokens, one letter each; two of them are Names.
var letters = map[byte]string{'i': "inactive:", 'p': "protect:", 'a': "a", 'b': `"b b"`, '{': "{", '}': "}", ';': ";"}

var (
	whole   = regexp.MustCompile(`(?:ip|pi|i|p)?n(?:;|\{S*\})`)
	viable  = regexp.MustCompile(`^(?:S*(?:ip|pi|i|p)?n\{)*S*(?:ip|pi|i|p)?n?$`)
	settled = regexp.MustCompile(`^S*$`)
)

// reduced puts an S for each whole statement, from the inner ones on; a mark too many stays ahead of its S.
func reduced(ls string) string {
	ls = strings.NewReplacer("a", "n", "b", "n").Replace(ls)
	for {
		next := whole.ReplaceAllString(ls, "S")
		if next == ls {
			return ls
		}
		ls = next
	}
}

// pathOf looks back from a Name for those that are open there.
func pathOf(ls string, i int) string {
	path, closed := ls[i:i+1], 0
	for k := i - 1; k > 0; k-- {
		switch {
		case ls[k] == '}':
			closed++
		case ls[k] == '{' && closed > 0:
			closed--
		case ls[k] == '{':
			path = ls[k-1:k] + path
		}
	}
	return path
}

// said says the chapter's words again, of letters: the paths with their marks in the order of a tree, or the letter that has an error.
func said(ls string) ([]string, int, api.Errno) {
	var lines []string
	seen := map[string]int{}
	for i := range len(ls) {
		if !viable.MatchString(reduced(ls[:i+1])) {
			return nil, i, api.ErrForm
		}
		if ls[i] != 'a' && ls[i] != 'b' {
			continue
		}
		path := pathOf(ls, i)
		if seen[path]++; seen[path] > 1 {
			return nil, i, api.ErrThere
		}
		ahead := strings.TrimRight(ls[:i], "ip")
		mark := strings.Count(ls[len(ahead):i], "i") + 2*strings.Count(ls[len(ahead):i], "p")
		lines = append(lines, path+" "+string(rune('0'+mark)))
	}
	if !settled.MatchString(reduced(ls)) {
		return nil, len(ls), api.ErrForm
	}
	slices.Sort(lines)
	return lines, 0, api.OK
}

// written writes letters as a text, and tells each one's place, and the text's length.
func written(ls string) (string, []int) {
	s := ""
	var places []int
	for i := range len(ls) {
		places = append(places, len(s))
		s += letters[ls[i]] + " "
	}
	return s, append(places, len(s))
}

// told writes a tree as said does.
func told(t []api.Line) []string {
	var lines []string
	for i, l := range t {
		path, _ := tree.Path(t, i)
		lines = append(lines, strings.ReplaceAll(strings.Join(path, ""), "b b", "b")+" "+string(rune('0'+l.Mark)))
	}
	return lines
}

// eachText calls f with all texts of few tokens; of those that have an error it goes on only with one token more, as no more can turn it.
func eachText(n int, f func(ls string)) {
	var grow func(ls string, over bool)
	grow = func(ls string, over bool) {
		f(ls)
		if over || len(ls) == n {
			return
		}
		_, at, e := said(ls)
		for _, l := range "ipab{};" {
			grow(ls+string(l), e != api.OK && at < len(ls))
		}
	}
	grow("", false)
}

// P5.1: all texts of few tokens, held against the chapter's words said again.
func TestTreeShortTexts(t *testing.T) {
	trees := 0
	eachText(9, func(ls string) {
		want, place, fault := said(ls)
		s, places := written(ls)
		if fault != api.OK {
			bad(t, s, places[place], fault)
			return
		}
		trees++
		x, at, e := Tree(s)
		if at != 0 || e != api.OK || !tree.Right(x) || !slices.Equal(told(x), want) {
			t.Errorf("%q: %v, %d, %d; it should be %q", s, x, at, e, want)
		}
	})
	if trees < 900 {
		t.Errorf("only %d trees", trees)
	}
}

// eachBytes calls f with every text of at most n of the pieces.
func eachBytes(pieces []string, n int, f func(s string)) {
	var grow func(s string, left int)
	grow = func(s string, left int) {
		f(s)
		if left == 0 {
			return
		}
		for _, p := range pieces {
			grow(s+p, left-1)
		}
	}
	grow("", n)
}

// P5.1, P1: of whatever bytes, layer 2's error and place, or a tree, or an error at a token or the end.
func TestTreeBytes(t *testing.T) {
	pieces := []string{"a", "b", "inactive:", "protect:", "{", "}", ";", " ", "\n", "#", "/*", "*/", `"`, `\`, ",", "\xff", fortyOne}
	eachBytes(pieces, 4, func(s string) {
		tokens, place, fault := lex.All(s)
		if fault != api.OK {
			bad(t, s, place, fault)
			return
		}
		x, at, e := Tree(s)
		switch e {
		case api.OK:
			if at != 0 || !tree.Right(x) {
				t.Errorf("%q: %v, %d", s, x, at)
			}
		case api.ErrForm, api.ErrThere:
			begins := slices.ContainsFunc(tokens, func(k lex.Token) bool { return k.At == at && (e == api.ErrForm || k.Kind == lex.Name) })
			if len(x) != 0 || !begins && (e != api.ErrForm || at != len(s)) {
				t.Errorf("%q: %v, %d, %d", s, x, at, e)
			}
		default:
			t.Errorf("%q: %d", s, e)
		}
	})
}

// eachTree calls f with many trees: deep ones, wide ones, and of all marks.
func eachTree(f func(t []api.Line)) {
	for _, c := range []struct {
		n, deepest int
		words      []string
		marks      []int
	}{{7, 6, []string{"a", "b"}, []int{0}}, {6, 3, []string{"", "a b", "c"}, []int{0}}, {3, 2, []string{"a", "protect:"}, []int{0, 1, 2, 3}}} {
		var grow func(t []api.Line)
		grow = func(t []api.Line) {
			if !tree.Right(t) {
				return
			}
			f(t)
			if len(t) == c.n {
				return
			}
			for d := range c.deepest + 1 {
				for _, w := range c.words {
					for _, m := range c.marks {
						grow(append(slices.Clone(t), api.Line{Depth: d, Word: w, Mark: m}))
					}
				}
			}
		}
		grow(nil)
	}
}

// large has parts within parts, all marks, and words that are written quoted.
func large() []api.Line {
	return list(line(0, ""), line(0, "hosts"), api.Line{Depth: 1, Word: "h 1", Mark: 1}, line(2, "ip"), line(3, "10.0.0.1"), api.Line{Depth: 1, Word: "h2", Mark: 2},
		api.Line{Depth: 2, Word: "ip", Mark: 3}, line(3, "10.0.0.2"), api.Line{Depth: 3, Word: "inactive:", Mark: 1}, line(2, "vni"), api.Line{Word: "rules", Mark: 3},
		line(0, "vnis"), line(1, "\x00\n\"\\"), line(1, forty))
}

// P5.2: the text of a tree is that tree.
func TestWrittenTree(t *testing.T) {
	trees := 0
	check := func(x []api.Line) {
		s, e := show.Text(x)
		if e != api.OK {
			t.Errorf("%v: %d", x, e)
		}
		trees++
		good(t, s, x)
	}
	eachTree(check)
	check(large())
	check(chain(api.MaxDepth))
	check(flat(api.MaxLines))
	check(append(flat(184), chain(16)...))
	if trees < 1000 {
		t.Errorf("only %d trees", trees)
	}
}

// P5.2: of a text that is a tree the text of that tree is that tree, too.
func TestTextAgain(t *testing.T) {
	check := func(s string) {
		x, _, e := Tree(s)
		if e != api.OK {
			return
		}
		again, e := show.Text(x)
		if e != api.OK {
			t.Errorf("%q: %v is no tree", s, x)
		}
		good(t, again, x)
	}
	eachText(9, func(ls string) {
		s, _ := written(ls)
		check(s)
	})
	check("z { protect: inactive: \"\" { } /* } */ b; a { \"\\x00\"; c {} } } # }\n\"/*\"; A{" + open(15) + strings.Repeat("}", 15) + "}")
}

// turned writes a tree with siblings in another order, that turn tells of a list of places.
func turned(x []api.Line, i int, turn func(kids []int)) string {
	kids := tree.Kids(x, i)
	turn(kids)
	s := ""
	for _, k := range kids {
		s += []string{"", "inactive: ", "protect: ", "protect: inactive: "}[x[k].Mark]
		w, _ := word.Quote(x[k].Word)
		s += w + "{" + turned(x, k, turn) + "}"
	}
	return s
}

// P5.2: siblings may change places.
func TestSiblingsTurned(t *testing.T) {
	turns := []func(kids []int){
		func(kids []int) {},
		slices.Reverse[[]int],
		func(kids []int) { slices.SortStableFunc(kids, func(a, b int) int { return a%2 - b%2 }) },
		func(kids []int) {
			if len(kids) > 1 {
				kids[0], kids[1] = kids[1], kids[0]
			}
		},
	}
	check := func(x []api.Line) {
		for _, turn := range turns {
			good(t, turned(x, -1, turn), x)
		}
	}
	eachTree(check)
	check(large())
	check(flat(api.MaxLines))
	check(append(chain(api.MaxDepth), line(15, "y"), line(14, "y"), line(3, "y"), line(0, "y")))
}

// R1, R4: asked twice, a text answers the same, in memory of its own.
func TestTreeTwice(t *testing.T) {
	const s = "b { inactive: d; c; } protect: a;"
	want := list(api.Line{Word: "a", Mark: 2}, line(0, "b"), line(1, "c"), api.Line{Depth: 1, Word: "d", Mark: 1})
	first, _, _ := Tree(s)
	good(t, s, want)
	for i := range first {
		first[i] = api.Line{Word: "q"}
	}
	bad(t, "a; a;", 3, api.ErrThere)
	good(t, s, want)
}

// P1: long texts end, too.
func TestTreeEnds(t *testing.T) {
	good(t, strings.Repeat("/* a { */ \n", 100000)+"a;", list(line(0, "a")))
	bad(t, strings.Repeat("}", 100000), 0, api.ErrForm)
	bad(t, strings.Repeat("{", 100000), 0, api.ErrForm)
	bad(t, strings.Repeat("a;", 100000), 2, api.ErrThere)
	bad(t, strings.Repeat("a ", 100000), 2, api.ErrForm)
	bad(t, strings.Repeat("inactive: ", 100000), 10, api.ErrForm)
}

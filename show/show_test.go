package show

import (
	"math"
	"slices"
	"strings"
	"testing"

	"ferryslip/api"
	"ferryslip/lex"
	"ferryslip/tree"
)

var (
	forty    = strings.Repeat("a", api.MaxWord)
	fortyOne = strings.Repeat("a", api.MaxWord+1)
)

// line is one without marks.
func line(depth int, word string) api.Line { return api.Line{Depth: depth, Word: word} }

// example is the chapter's: a, under it b.
func example() []api.Line { return []api.Line{line(0, "a"), line(1, "b")} }

// large has several parts, parts within parts, all marks, and words that are written quoted.
func large() []api.Line {
	return []api.Line{
		line(0, ""), line(0, "hosts"), {Depth: 1, Word: "h 1", Mark: api.Inactive}, line(2, "ip"), line(3, "10.0.0.1"),
		{Depth: 1, Word: "h2", Mark: api.Protect}, {Depth: 2, Word: "ip", Mark: 3}, line(3, "10.0.0.2"), {Depth: 3, Word: "inactive:", Mark: api.Inactive},
		line(2, "vni"), {Word: "rules", Mark: 3}, line(0, "vnis"), line(1, "5"),
	}
}

const largeText = `"";
hosts {
  inactive: "h 1" {
    ip {
      10.0.0.1;
    }
  }
  protect: h2 {
    inactive: protect: ip {
      10.0.0.2;
      inactive: "inactive:";
    }
    vni;
  }
}
inactive: protect: rules;
vnis {
  5;
}
`

// chain has n lines, each under the one ahead.
func chain(n int) []api.Line {
	var t []api.Line
	for i := range n {
		t = append(t, line(i, "x"))
	}
	return t
}

// flat has n lines of Depth 0.
func flat(n int) []api.Line {
	var t []api.Line
	for i := range n {
		t = append(t, line(0, string([]byte{'a' + byte(i/26), 'a' + byte(i%26)})))
	}
	return t
}

// wrong are lists of lines that are no tree, each for one cause.
func wrong() [][]api.Line {
	return [][]api.Line{
		{line(1, "a")}, {line(-1, "a")}, {line(math.MinInt, "a")}, {line(math.MaxInt, "a")}, {line(16, "a")}, chain(17),
		{line(0, "a"), line(2, "b")}, {line(0, "a"), line(-1, "b")}, {line(0, "a"), line(math.MaxInt, "b")},
		{line(0, fortyOne)}, {line(0, "a"), line(1, fortyOne)}, {line(0, "a"), line(0, strings.Repeat("b", 100000))},
		{{Word: "a", Mark: 4}}, {{Word: "a", Mark: -1}}, {{Word: "a", Mark: math.MinInt}}, {line(0, "a"), {Depth: 1, Word: "b", Mark: 4}},
		{line(0, "b"), line(0, "a")}, {line(0, "a"), line(0, "a")}, {line(0, ""), line(0, "")},
		{line(0, "a"), line(1, "b"), line(2, "x"), line(1, "b")}, {line(0, "a"), line(1, "b"), line(0, "a")},
		flat(201), append(flat(200), line(1, "a")), make([]api.Line, 201),
	}
}

// each calls f with all lists of at most n of the lines.
func each(lines []api.Line, n int, f func(t []api.Line)) {
	var grow func(t []api.Line)
	grow = func(t []api.Line) {
		f(t)
		if len(t) == n {
			return
		}
		for _, l := range lines {
			grow(append(slices.Clone(t), l))
		}
	}
	grow(nil)
}

// allLines are all of these Depths, Words and Marks.
func allLines(depths []int, words []string, marks ...int) []api.Line {
	var all []api.Line
	for _, d := range depths {
		for _, w := range words {
			for _, m := range marks {
				all = append(all, api.Line{Depth: d, Word: w, Mark: m})
			}
		}
	}
	return all
}

// eachShort calls f with many short lists: of deep ones, of wide ones, and of all marks; most are no tree.
func eachShort(f func(t []api.Line)) {
	each(allLines([]int{-1, 0, 1, 2, 3, 4}, []string{"a", "b"}, 0), 5, f)
	each(allLines([]int{0, 1, 2}, []string{"", "a b", "c"}, 0), 5, f)
	each(allLines([]int{0, 1}, []string{"a", "inactive:"}, 0, 1, 2, 3, 4), 3, f)
}

// quoted are the words of these tests, as layer 1's chapter writes them.
func quoted(w string) string {
	switch w {
	case "", "a b", "inactive:":
		return `"` + w + `"`
	}
	return w
}

func blanks(depth int) string { return strings.Repeat("  ", depth) }

// said says the chapter's words again, line by line: what a line has, and which parts have their last line there.
func said(t []api.Line) string {
	s := ""
	for i, l := range t {
		s += blanks(l.Depth) + []string{"", "inactive: ", "protect: ", "inactive: protect: "}[l.Mark] + quoted(l.Word)
		if lastOf(t, i) == i {
			s += ";\n"
		} else {
			s += " {\n"
		}
		for k := i - 1; k >= 0; k-- {
			if lastOf(t, k) == i {
				s += blanks(t[k].Depth) + "}\n"
			}
		}
	}
	return s
}

// lastOf is the last line of the part of the one at i.
func lastOf(t []api.Line, i int) int {
	for k := i + 1; k < len(t); k++ {
		if t[k].Depth <= t[i].Depth {
			return k - 1
		}
	}
	return len(t) - 1
}

// read makes lines of a text's tokens, and tells how many parts are left open.
func read(s string) ([]api.Line, int, api.Errno) {
	tokens, _, e := lex.All(s)
	var t []api.Line
	depth, mark := 0, 0
	for _, k := range tokens {
		switch k.Kind {
		case lex.Mark:
			mark |= k.Bit
		case lex.Name:
			t = append(t, api.Line{Depth: depth, Word: k.Word, Mark: mark})
			mark = 0
		case lex.Open:
			depth++
		case lex.Close:
			depth--
		}
	}
	return t, depth, e
}

func good(t *testing.T, x []api.Line, want string) {
	t.Helper()
	if s, e := Text(x); s != want || e != api.OK {
		t.Errorf("%v: %q, %d; it should be %q", x, s, e, want)
	}
}

func goodPart(t *testing.T, x []api.Line, i int, want string) {
	t.Helper()
	if s, e := Part(x, i); s != want || e != api.OK {
		t.Errorf("%v, at %d: %q, %d; it should be %q", x, i, s, e, want)
	}
}

func badPart(t *testing.T, x []api.Line, i int) {
	t.Helper()
	if s, e := Part(x, i); s != "" || e != api.ErrArg {
		t.Errorf("%v, at %d: %q, %d", x, i, s, e)
	}
}

// P4.1: the chapter's example, and ordinary trees.
func TestText(t *testing.T) {
	good(t, example(), "a {\n  b;\n}\n")
	good(t, large(), largeText)
	good(t, []api.Line{line(0, "a"), line(1, "b"), line(1, "c"), line(0, "d")}, "a {\n  b;\n  c;\n}\nd;\n")
	good(t, []api.Line{line(0, "a"), line(1, "b"), line(2, "c"), line(1, "d"), line(0, "e")}, "a {\n  b {\n    c;\n  }\n  d;\n}\ne;\n")
	good(t, []api.Line{line(0, "a"), line(1, "b"), line(2, "c"), line(0, "d"), line(1, "e")}, "a {\n  b {\n    c;\n  }\n}\nd {\n  e;\n}\n")
}

// P4.1: no lines, one line, and as many as there may be.
func TestTextEdges(t *testing.T) {
	good(t, nil, "")
	good(t, []api.Line{}, "")
	good(t, []api.Line{line(0, "a")}, "a;\n")
	good(t, []api.Line{line(0, "a"), line(0, "b")}, "a;\nb;\n")
	many := ""
	for _, l := range flat(api.MaxLines) {
		many += l.Word + ";\n"
	}
	good(t, flat(api.MaxLines), many)
}

// P4.1: parts within parts, up to the greatest Depth, of which all have their end at one line.
func TestTextDeep(t *testing.T) {
	for n := 1; n <= api.MaxDepth; n++ {
		ahead, behind := "", ""
		for d := range n - 1 {
			ahead += blanks(d) + "x {\n"
			behind = blanks(d) + "}\n" + behind
		}
		want := ahead + blanks(n-1) + "x;\n" + behind
		good(t, chain(n), want)
		good(t, append(chain(n), line(0, "y")), want+"y;\n")
	}
}

// P4.1: each mark, and both, on a line alone and on one that has others under it.
func TestTextMarks(t *testing.T) {
	for mark, text := range []string{"", "inactive: ", "protect: ", "inactive: protect: "} {
		good(t, []api.Line{{Word: "a", Mark: mark}}, text+"a;\n")
		good(t, []api.Line{{Word: "a", Mark: mark}, line(1, "b")}, text+"a {\n  b;\n}\n")
		good(t, []api.Line{line(0, "a"), {Depth: 1, Word: "b", Mark: mark}}, "a {\n  "+text+"b;\n}\n")
		good(t, []api.Line{{Word: "", Mark: mark}}, text+"\"\";\n")
	}
}

// P4.1: words are written as layer 1 writes them.
func TestTextWords(t *testing.T) {
	for _, c := range []struct{ word, text string }{
		{"", `""`}, {"a b", `"a b"`}, {" ", `" "`}, {"inactive:", `"inactive:"`}, {"protect:", `"protect:"`}, {"/*", `"/*"`}, {"/*a*/", `"/*a*/"`},
		{"#", `"#"`}, {"{", `"{"`}, {"}", `"}"`}, {";", `";"`}, {`"`, `"\""`}, {`\`, `"\\"`}, {"\n", `"\x0a"`}, {"\x00\xff", `"\x00\xff"`},
		{"inactive", "inactive"}, {"protect:x", "protect:x"}, {"10.1.0.0/16", "10.1.0.0/16"}, {"*", "*"}, {"vni-5", "vni-5"},
		{forty, forty}, {strings.Repeat("\xff", 40), `"` + strings.Repeat(`\xff`, 40) + `"`},
	} {
		good(t, []api.Line{line(0, c.word)}, c.text+";\n")
		good(t, []api.Line{line(0, c.word), line(1, c.word)}, c.text+" {\n  "+c.text+";\n}\n")
	}
}

// P4.1: of what is no tree there is no text, nor of a part of it.
func TestNoTree(t *testing.T) {
	for n, x := range wrong() {
		if s, e := Text(x); s != "" || e != api.ErrArg {
			t.Errorf("%d: %.80q, %d", n, s, e)
		}
		for _, i := range []int{math.MinInt, -1, 0, 1, len(x) - 1, len(x), math.MaxInt} {
			badPart(t, x, i)
		}
	}
}

// P4.1: the text of a part: of the first line, of the last one, of one with others under it, and of one alone.
func TestPart(t *testing.T) {
	goodPart(t, example(), 0, "a {\n  b;\n}\n")
	goodPart(t, example(), 1, "b;\n")
	for i, want := range map[int]string{
		0:  "\"\";\n",
		2:  "inactive: \"h 1\" {\n  ip {\n    10.0.0.1;\n  }\n}\n",
		3:  "ip {\n  10.0.0.1;\n}\n",
		4:  "10.0.0.1;\n",
		5:  "protect: h2 {\n  inactive: protect: ip {\n    10.0.0.2;\n    inactive: \"inactive:\";\n  }\n  vni;\n}\n",
		6:  "inactive: protect: ip {\n  10.0.0.2;\n  inactive: \"inactive:\";\n}\n",
		8:  "inactive: \"inactive:\";\n",
		10: "inactive: protect: rules;\n",
		11: "vnis {\n  5;\n}\n",
		12: "5;\n",
	} {
		goodPart(t, large(), i, want)
	}
	goodPart(t, []api.Line{line(0, "a")}, 0, "a;\n")
	goodPart(t, flat(api.MaxLines), api.MaxLines-1, "hr;\n")
	goodPart(t, chain(api.MaxDepth), api.MaxDepth-1, "x;\n")
	whole, _ := Text(chain(api.MaxDepth))
	goodPart(t, chain(api.MaxDepth), 0, whole)
}

// P4.1: where no line is, there is no part.
func TestPartNone(t *testing.T) {
	for _, x := range [][]api.Line{nil, {}, {line(0, "")}, example(), large(), chain(16), flat(200)} {
		for _, i := range []int{math.MinInt, math.MinInt + 1, -200, -2, -1, len(x), len(x) + 1, 1 << 32, math.MaxInt - 1, math.MaxInt} {
			badPart(t, x, i)
		}
	}
}

// P4.1, P4.2: all short lists, held against the chapter's words said again.
func TestShortLists(t *testing.T) {
	trees := 0
	eachShort(func(x []api.Line) {
		if !tree.Right(x) {
			if s, e := Text(x); s != "" || e != api.ErrArg {
				t.Errorf("%v: %q, %d", x, s, e)
			}
			badPart(t, x, 0)
			return
		}
		trees++
		want := said(x)
		good(t, x, want)
		if back, open, e := read(want); open != 0 || e != api.OK || !slices.Equal(back, x) {
			t.Errorf("%v: read as %v, %d, %d", x, back, open, e)
		}
		badPart(t, x, -1)
		badPart(t, x, len(x))
		for i := range x {
			goodPart(t, x, i, said(tree.Sub(x, i)))
		}
	})
	if trees < 1000 {
		t.Errorf("only %d trees", trees)
	}
}

// P4.2: unlike trees have unlike texts.
func TestUnlike(t *testing.T) {
	texts := map[string][]api.Line{}
	eachShort(func(x []api.Line) {
		s, e := Text(x)
		if e != api.OK {
			return
		}
		if other, ok := texts[s]; ok && !slices.Equal(other, x) {
			t.Errorf("%v and %v: %q", other, x, s)
		}
		texts[s] = x
	})
	if len(texts) < 1000 {
		t.Errorf("only %d texts", len(texts))
	}
}

// P4.2: a tree's text is those of its parts of Depth 0, one behind the other.
func TestParts(t *testing.T) {
	check := func(x []api.Line) {
		whole, e := Text(x)
		if e != api.OK {
			return
		}
		parts := ""
		for _, i := range tree.Kids(x, -1) {
			s, e := Part(x, i)
			if e != api.OK {
				t.Errorf("%v, at %d: %d", x, i, e)
			}
			parts += s
		}
		if parts != whole {
			t.Errorf("%v: %q, and of its parts %q", x, whole, parts)
		}
	}
	eachShort(check)
	check(large())
	check(append(chain(api.MaxDepth), line(0, "y")))
	check(flat(api.MaxLines))
}

// R1, R4: what is handed in stays as it was, and the same is answered again, however much room a list has behind its end.
func TestSameAgain(t *testing.T) {
	x := large()
	for range 2 {
		good(t, x, largeText)
		for i := range x {
			Part(x, i)
		}
		if !slices.Equal(x, large()) {
			t.Fatalf("changed: %v", x)
		}
	}
	good(t, x[:1:1], "\"\";\n")
	good(t, x[:2], "\"\";\nhosts;\n")
	goodPart(t, x[:2], 1, "hosts;\n")
	badPart(t, x[:2], 2)
	if !slices.Equal(x, large()) {
		t.Errorf("changed: %v", x)
	}
}

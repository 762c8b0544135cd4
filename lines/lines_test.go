package lines

import (
	"maps"
	"math"
	"regexp"
	"slices"
	"strings"
	"testing"

	"ferryslip/api"
	"ferryslip/lex"
	"ferryslip/tree"
)

var (
	forty    = strings.Repeat("a", api.MaxWord)
	fortyOne = strings.Repeat("a", api.MaxWord+1)
	verbs    = []string{"set", "deactivate", "protect"}
)

// line is one without marks.
func line(depth int, w string) api.Line { return api.Line{Depth: depth, Word: w} }

func list(t ...api.Line) []api.Line { return t }

func path(words ...string) []string { return words }

// xs is a path of n words.
func xs(n int) []string { return slices.Repeat(path("x"), n) }

// chain has n lines, each under the one ahead.
func chain(n int) []api.Line {
	var t []api.Line
	for i := range n {
		t = append(t, line(i, "x"))
	}
	return t
}

// code is the i-th of words that rise.
func code(i int) string { return string([]byte{'a' + byte(i/26), 'a' + byte(i%26)}) }

// flat has n lines of Depth 0.
func flat(n int) []api.Line {
	var t []api.Line
	for i := range n {
		t = append(t, line(0, code(i)))
	}
	return t
}

// flatText is the commands of flat, on one line, each of seven bytes.
func flatText(n int) string {
	s := ""
	for i := range n {
		s += "set " + code(i) + ";"
	}
	return s
}

// deeper puts lines under one.
func deeper(w string, t []api.Line) []api.Line {
	out := list(line(0, w))
	for _, l := range t {
		l.Depth++
		out = append(out, l)
	}
	return out
}

// large has parts within parts, all marks, and words that are written quoted.
func large() []api.Line {
	return list(line(0, ""), line(0, "hosts"), api.Line{Depth: 1, Word: "h 1", Mark: 1}, line(2, "ip"), line(3, "10.0.0.1"), api.Line{Depth: 1, Word: "h2", Mark: 2},
		api.Line{Depth: 2, Word: "ip", Mark: 3}, line(3, "10.0.0.2"), api.Line{Depth: 3, Word: "inactive:", Mark: 1}, line(2, "vni"), api.Line{Word: "rules", Mark: 3},
		line(0, "vnis"), line(1, "\x00\n\"\\"), line(1, forty))
}

const largeText = `set "";
set hosts "h 1" ip 10.0.0.1;
set hosts h2 ip 10.0.0.2;
set hosts h2 ip "inactive:";
set hosts h2 vni;
set rules;
set vnis "\x00\x0a\"\\";
set vnis aaaaaaaaaaaaaaaaaaaaaaaaaaaaaaaaaaaaaaaa;
deactivate hosts "h 1";
protect hosts h2;
deactivate hosts h2 ip;
protect hosts h2 ip;
deactivate hosts h2 ip "inactive:";
deactivate rules;
protect rules;
`

// noTrees are lists of lines that are no tree, each for one cause.
func noTrees() [][]api.Line {
	return [][]api.Line{
		{line(1, "a")}, {line(-1, "a")}, {line(math.MinInt, "a")}, {line(math.MaxInt, "a")}, {line(16, "a")}, chain(17),
		{line(0, "a"), line(2, "b")}, {line(0, "a"), line(-1, "b")}, {line(0, "a"), line(math.MaxInt, "b")},
		{line(0, fortyOne)}, {line(0, "a"), line(1, fortyOne)}, {line(0, "a"), line(0, strings.Repeat("b", 100000))},
		{{Word: "a", Mark: 4}}, {{Word: "a", Mark: -1}}, {{Word: "a", Mark: math.MinInt}}, {line(0, "a"), {Depth: 1, Word: "b", Mark: 4}},
		{line(0, "b"), line(0, "a")}, {line(0, "a"), line(0, "a")}, {line(0, ""), line(0, "")},
		{line(0, "a"), line(1, "b"), line(2, "x"), line(1, "b")}, {line(0, "a"), line(1, "b"), line(0, "a")},
		flat(201), append(flat(200), line(1, "a")), make([]api.Line, 201),
	}
}

// eachTree calls f with many trees: deep ones, wide ones, and of all marks.
func eachTree(f func(t []api.Line)) {
	for _, c := range []struct {
		n, deepest int
		words      []string
		marks      []int
	}{{6, 5, []string{"a", "b"}, []int{0}}, {5, 3, []string{"", "a b", "c"}, []int{0}}, {3, 2, []string{"a", "protect:"}, []int{0, 1, 2, 3}}} {
		var grow func(t []api.Line)
		grow = func(t []api.Line) {
			if !tree.Right(t) {
				return
			}
			f(t)
			if len(t) == c.n {
				return
			}
			for d := range c.deepest + 1 {
				for _, w := range c.words {
					for _, m := range c.marks {
						grow(append(slices.Clone(t), api.Line{Depth: d, Word: w, Mark: m}))
					}
				}
			}
		}
		grow(nil)
	}
}

// eachPath calls f with all paths of 1 to n of the words.
func eachPath(words []string, n int, f func(p []string)) {
	var grow func(p []string)
	grow = func(p []string) {
		if len(p) > 0 {
			f(p)
		}
		if len(p) == n {
			return
		}
		for _, w := range words {
			grow(append(slices.Clone(p), w))
		}
	}
	grow(nil)
}

// key makes one text of a path; no word of these tests has a |.
func key(p []string) string { return strings.Join(p, "|") }

// pathsOf tells the Mark of each path; of what is no tree too few.
func pathsOf(t []api.Line) map[string]int {
	paths := map[string]int{}
	for i, l := range t {
		p, _ := tree.Path(t, i)
		paths[key(p)] = l.Mark
	}
	return paths
}

func added(t *testing.T, x []api.Line, p []string, want []api.Line) {
	t.Helper()
	if y, e := Add(x, p); e != api.OK || !slices.Equal(y, want) {
		t.Errorf("%v and %q: %v, %d; it should be %v", x, p, y, e, want)
	}
}

func notAdded(t *testing.T, x []api.Line, p []string, want api.Errno) {
	t.Helper()
	if y, e := Add(x, p); e != want || !slices.Equal(y, x) {
		t.Errorf("%d lines and %.80q: %d lines, %d; it should be the same lines, %d", len(x), p, len(y), e, want)
	}
}

func good(t *testing.T, s string, want []api.Line) {
	t.Helper()
	if x, at, e := Read(s); at != 0 || e != api.OK || !slices.Equal(x, want) {
		t.Errorf("%.80q: %v, %d, %d; it should be %v", s, x, at, e, want)
	}
}

func bad(t *testing.T, s string, place int, want api.Errno) {
	t.Helper()
	if x, at, e := Read(s); len(x) != 0 || at != place || e != want {
		t.Errorf("%.80q: %d lines, %d, %d; it should be %d, %d", s, len(x), at, e, place, want)
	}
}

// P6.1: a path that is not there, one that is there in part, and one that is there.
func TestAdd(t *testing.T) {
	added(t, nil, path("a"), list(line(0, "a")))
	added(t, nil, path("a", "b", "c"), list(line(0, "a"), line(1, "b"), line(2, "c")))
	x := list(line(0, "b"), line(1, "d"), line(2, "f"), line(0, "d"))
	added(t, x, path("b"), x)
	added(t, x, path("b", "d", "f"), x)
	added(t, x, path("d"), x)
	added(t, x, path("b", "d", "f", "g"), list(line(0, "b"), line(1, "d"), line(2, "f"), line(3, "g"), line(0, "d")))
	added(t, x, path("b", "d", "g", "a"), list(line(0, "b"), line(1, "d"), line(2, "f"), line(2, "g"), line(3, "a"), line(0, "d")))
	added(t, x, path("b", "d", "e"), list(line(0, "b"), line(1, "d"), line(2, "e"), line(2, "f"), line(0, "d")))
	added(t, x, path("b", "c", "z"), list(line(0, "b"), line(1, "c"), line(2, "z"), line(1, "d"), line(2, "f"), line(0, "d")))
	added(t, x, path("b", "e"), list(line(0, "b"), line(1, "d"), line(2, "f"), line(1, "e"), line(0, "d")))
	added(t, x, path("c"), list(line(0, "b"), line(1, "d"), line(2, "f"), line(0, "c"), line(0, "d")))
	added(t, x, path("a", "d", "f"), list(line(0, "a"), line(1, "d"), line(2, "f"), line(0, "b"), line(1, "d"), line(2, "f"), line(0, "d")))
	added(t, x, path("d", "f"), list(line(0, "b"), line(1, "d"), line(2, "f"), line(0, "d"), line(1, "f")))
	added(t, x, path("e"), append(slices.Clone(x), line(0, "e")))
}

// P6.1: siblings stand in the order of their Words' bytes.
func TestAddOrder(t *testing.T) {
	words := path("", "\x00", " ", "-", "10", "9", "B", "a", "a b", "aa", "b", "\xc3\xa9", "\xff")
	for i, w := range words {
		var all, rest, under, restUnder []api.Line
		for k, v := range words {
			all = append(all, line(0, v), line(1, "z"))
			under = append(under, line(0, v))
			if k != i {
				rest = append(rest, line(0, v), line(1, "z"))
				restUnder = append(restUnder, line(0, v))
			}
		}
		added(t, rest, path(w, "z"), all)
		added(t, deeper("m", restUnder), path("m", w), deeper("m", under))
	}
}

// P6.1: marks stay where they are, and new lines have none.
func TestAddMarks(t *testing.T) {
	for m := range 4 {
		x := list(api.Line{Word: "b", Mark: m}, api.Line{Depth: 1, Word: "b", Mark: m}, api.Line{Word: "c", Mark: m})
		added(t, x, path("b"), x)
		added(t, x, path("b", "b"), x)
		added(t, x, path("b", "a"), list(x[0], line(1, "a"), x[1], x[2]))
		added(t, x, path("b", "b", "b"), list(x[0], x[1], line(2, "b"), x[2]))
		added(t, x, path("c", "b"), list(x[0], x[1], x[2], line(1, "b")))
		added(t, x, path("a", "b"), list(line(0, "a"), line(1, "b"), x[0], x[1], x[2]))
	}
}

// P6.1: words of as many bytes as there may be, of all bytes, and of none.
func TestAddWords(t *testing.T) {
	for _, w := range path("", " ", "a b", "inactive:", "/*", "\x00\xff\n", forty, strings.Repeat("\xff", 40), strings.Repeat(" ", 40), "set") {
		added(t, nil, path(w), list(line(0, w)))
		added(t, nil, path(w, w), list(line(0, w), line(1, w)))
		added(t, list(line(0, w)), path(w), list(line(0, w)))
		added(t, list(line(0, w)), path(w, w), list(line(0, w), line(1, w)))
	}
}

// P6.1: lines that are no tree, an empty path, and a word that is too long; each goes ahead of the other errors.
func TestAddWrong(t *testing.T) {
	for _, x := range noTrees() {
		for _, p := range [][]string{nil, {"a"}, {"a", "b"}, {fortyOne}, xs(16), xs(17)} {
			notAdded(t, x, p, api.ErrArg)
		}
	}
	for _, x := range [][]api.Line{nil, {}, flat(1), large(), chain(16), flat(200)} {
		for _, p := range [][]string{nil, {}, {fortyOne}, {"a", fortyOne}, {fortyOne, "a"}, {strings.Repeat("\xff", 41)}, {strings.Repeat("b", 100000)},
			append(xs(16), fortyOne), append(xs(100), fortyOne), append(path(fortyOne), xs(16)...)} {
			notAdded(t, x, p, api.ErrArg)
		}
	}
}

// P6.1: paths of as many words as there may be, and of more, that go ahead of too many lines.
func TestAddDeep(t *testing.T) {
	for n := 1; n <= api.MaxDepth; n++ {
		added(t, nil, xs(n), chain(n))
		added(t, chain(n), xs(16), chain(16))
		added(t, chain(16), xs(n), chain(16))
		added(t, chain(16), append(xs(n-1), "y"), append(chain(16), line(n-1, "y")))
		added(t, chain(n), append(xs(n-1), "w"), append(append(chain(n-1), line(n-1, "w")), chain(n)[n-1:]...))
	}
	for _, x := range [][]api.Line{nil, chain(1), chain(16), flat(184), flat(199), flat(200)} {
		for _, n := range []int{17, 18, 1000} {
			notAdded(t, x, xs(n), api.ErrDeep)
			notAdded(t, x, append(path("", forty), xs(n-2)...), api.ErrDeep)
		}
	}
}

// P6.1: as many lines as there may be, and more.
func TestAddLong(t *testing.T) {
	added(t, flat(199), path("z"), append(flat(199), line(0, "z")))
	added(t, flat(199), path("aa", "z"), append(list(line(0, "aa"), line(1, "z")), flat(199)[1:]...))
	added(t, flat(198), path("z", "y"), append(flat(198), line(0, "z"), line(1, "y")))
	added(t, flat(184), xs(16), append(flat(184), chain(16)...))
	added(t, flat(200), path("aa"), flat(200))
	added(t, flat(200), path("hr"), flat(200))
	added(t, append(flat(184), chain(16)...), xs(16), append(flat(184), chain(16)...))
	for _, c := range []struct {
		x []api.Line
		p []string
	}{
		{flat(200), path("z")}, {flat(200), path("")}, {flat(200), path("aa", "a")}, {flat(200), xs(16)}, {flat(199), path("z", "y")}, {flat(199), path("aa", "z", "y")},
		{flat(185), xs(16)}, {flat(199), xs(16)}, {append(flat(184), chain(16)...), append(xs(15), "y")}, {deeper("x", flat(199)), path("x", "z")}, {deeper("x", flat(199)), path("y")},
	} {
		notAdded(t, c.x, c.p, api.ErrLong)
	}
}

// P6.1: of many trees and paths, the paths that were there with their marks, the new ones without, and no other.
func TestAddEach(t *testing.T) {
	eachTree(func(x []api.Line) {
		before := pathsOf(x)
		eachPath(path("a", "a b"), 3, func(p []string) {
			y, e := Add(x, p)
			want := maps.Clone(before)
			for n := range p {
				want[key(p[:n+1])] = before[key(p[:n+1])]
			}
			if e != api.OK || !tree.Right(y) || !maps.Equal(pathsOf(y), want) {
				t.Errorf("%v and %q: %v, %d", x, p, y, e)
			}
			added(t, y, p, y)
		})
	})
}

// R1, R3, R4: what Add is handed stays as it was, and what it answers is memory of its own, with an error, too.
func TestAddShares(t *testing.T) {
	for _, c := range []struct {
		x []api.Line
		p []string
	}{
		{large(), path("hosts", "h2", "mtu")}, {large(), path("hosts")}, {large(), path("zz", "a")}, {large(), path("", "a")}, {large(), nil}, {large(), path(fortyOne)}, {large(), xs(17)},
		{flat(200), path("z")}, {flat(201), path("z")}, {chain(17), path("z")},
	} {
		x := append(make([]api.Line, 0, 500), c.x...)
		spare := x[len(x):cap(x)]
		p := slices.Clone(c.p)
		first, e := Add(x, p)
		if !slices.Equal(x, c.x) || !slices.Equal(p, c.p) || slices.ContainsFunc(spare, func(l api.Line) bool { return l != api.Line{} }) {
			t.Errorf("%d lines and %.80q: it was written into", len(x), p)
		}
		kept := slices.Clone(first)
		for i := range first {
			first[i].Word = "q"
		}
		again, e2 := Add(x, p)
		if !slices.Equal(x, c.x) || !slices.Equal(again, kept) || e != e2 {
			t.Errorf("%d lines and %.80q: asked twice %d and %d", len(x), p, e, e2)
		}
	}
}

func text(t *testing.T, x []api.Line, want string) {
	t.Helper()
	if s, e := Text(x); s != want || e != api.OK {
		t.Errorf("%v: %q, %d; it should be %q", x, s, e, want)
	}
}

// P6.2: the chapter's example, the smallest trees, and a large one.
func TestText(t *testing.T) {
	text(t, list(line(0, "a"), api.Line{Depth: 1, Word: "b", Mark: 2}), "set a b;\nprotect a b;\n")
	text(t, nil, "")
	text(t, list(), "")
	text(t, list(line(0, "a")), "set a;\n")
	text(t, list(line(0, ""), line(1, "")), "set \"\" \"\";\n")
	text(t, list(line(0, "a"), line(1, "b"), line(1, "c"), line(0, "d")), "set a b;\nset a c;\nset d;\n")
	text(t, chain(16), "set"+strings.Repeat(" x", 16)+";\n")
	text(t, flat(200), strings.ReplaceAll(flatText(200), ";", ";\n"))
	text(t, large(), largeText)
}

// P6.2: all sets stand ahead; then each line's own, deactivate ahead of protect.
func TestTextMarks(t *testing.T) {
	text(t, list(api.Line{Word: "a", Mark: 1}), "set a;\ndeactivate a;\n")
	text(t, list(api.Line{Word: "a", Mark: 2}), "set a;\nprotect a;\n")
	text(t, list(api.Line{Word: "a", Mark: 3}), "set a;\ndeactivate a;\nprotect a;\n")
	text(t, list(api.Line{Word: "a", Mark: 2}, api.Line{Depth: 1, Word: "b", Mark: 1}), "set a b;\nprotect a;\ndeactivate a b;\n")
	text(t, list(api.Line{Word: "a", Mark: 3}, api.Line{Depth: 1, Word: "b", Mark: 3}, api.Line{Word: "c", Mark: 3}),
		"set a b;\nset c;\ndeactivate a;\nprotect a;\ndeactivate a b;\nprotect a b;\ndeactivate c;\nprotect c;\n")
	text(t, list(line(0, "a"), api.Line{Word: "b", Mark: 2}, api.Line{Word: "c", Mark: 1}), "set a;\nset b;\nset c;\nprotect b;\ndeactivate c;\n")
}

// P6.2: each word is written as layer 1 writes it.
func TestTextWords(t *testing.T) {
	for w, written := range map[string]string{"": `""`, "a b": `"a b"`, "inactive:": `"inactive:"`, "/*": `"/*"`, ";": `";"`, "\n": `"\x0a"`, `"`: `"\""`, "\xff": `"\xff"`,
		"set": "set", "protect": "protect", "10.1.0.0/16": "10.1.0.0/16", forty: forty, strings.Repeat(" ", 40): `"` + strings.Repeat(" ", 40) + `"`} {
		text(t, list(line(0, w)), "set "+written+";\n")
		text(t, list(line(0, "x"), api.Line{Depth: 1, Word: w, Mark: 3}), "set x "+written+";\ndeactivate x "+written+";\nprotect x "+written+";\n")
	}
}

// P6.2: what is no tree has no commands.
func TestTextWrong(t *testing.T) {
	for i, x := range noTrees() {
		if s, e := Text(x); s != "" || e != api.ErrArg {
			t.Errorf("%d: %q, %d", i, s, e)
		}
	}
}

// said says the chapter's words again: the commands of a tree of few words.
func said(x []api.Line) string {
	sets, marks := "", ""
	var open []string
	for i, l := range x {
		open = append(open[:l.Depth], l.Word)
		written := " "
		for _, w := range open {
			if w == "" || w == "a b" || w == "protect:" {
				w = `"` + w + `"`
			}
			written += w + " "
		}
		command := strings.TrimSuffix(written, " ") + ";\n"
		if i+1 == len(x) || x[i+1].Depth <= l.Depth {
			sets += "set" + command
		}
		marks += []string{"", "deactivate" + command, "protect" + command, "deactivate" + command + "protect" + command}[l.Mark]
	}
	return sets + marks
}

// P6.2, P6.4, P2: many trees' commands are as the chapter says, and are read as these trees.
func TestTextEach(t *testing.T) {
	trees := 0
	eachTree(func(x []api.Line) {
		trees++
		s := said(x)
		text(t, x, s)
		good(t, s, x)
	})
	if trees < 1000 {
		t.Errorf("only %d trees", trees)
	}
}

// P6.3: the layer's example, and ordinary texts.
func TestRead(t *testing.T) {
	good(t, "set a b; protect a b;", list(line(0, "a"), api.Line{Depth: 1, Word: "b", Mark: 2}))
	good(t, "set hosts b; set hosts a ip 10.0.0.1;", list(line(0, "hosts"), line(1, "a"), line(2, "ip"), line(3, "10.0.0.1"), line(1, "b")))
	good(t, "set b;set a;", list(line(0, "a"), line(0, "b")))
	good(t, "set a b c; set a;", list(line(0, "a"), line(1, "b"), line(2, "c")))
	good(t, "set a; set a b c;", list(line(0, "a"), line(1, "b"), line(2, "c")))
	for _, s := range []string{"", " ", "\n\t\r ", "#", "# set a;", "# set a;\n", "/**/", "/* set a; */ # ;"} {
		good(t, s, nil)
	}
}

// P6.3: each of the three commands, at a part's first line and within one, in any order.
func TestReadMarks(t *testing.T) {
	at := func(mark, inner int) []api.Line {
		return list(api.Line{Word: "a", Mark: mark}, api.Line{Depth: 1, Word: "b", Mark: inner}, line(0, "c"))
	}
	const sets = "set c; set a b; "
	good(t, sets, at(0, 0))
	good(t, sets+"deactivate a;", at(1, 0))
	good(t, sets+"deactivate a b;", at(0, 1))
	good(t, sets+"protect a;", at(2, 0))
	good(t, sets+"protect a b;", at(0, 2))
	good(t, sets+"protect a; deactivate a;", at(3, 0))
	good(t, sets+"deactivate a; protect a;", at(3, 0))
	good(t, sets+"deactivate a; protect a b;", at(1, 2))
	good(t, sets+"protect a b; deactivate a; deactivate a b; protect a;", at(3, 3))
	good(t, "set a; protect a; set a b; deactivate a b; set c;", at(2, 1))
	good(t, "set a; deactivate a; set c; set a b; set a;", at(1, 0))
	good(t, sets+"protect a; protect a; deactivate a b; deactivate a b; protect a;", at(2, 1))
	good(t, sets+sets+"deactivate a; protect a; deactivate a; set a;", at(3, 0))
}

// P6.3: words that are written quoted, the three first words among them, and the longest ones.
func TestReadWords(t *testing.T) {
	for written, w := range map[string]string{
		`""`: "", `"a b"`: "a b", `"inactive:"`: "inactive:", `"/*"`: "/*", `"#"`: "#", `"{"`: "{", `";"`: ";", `"\""`: `"`, `"\x0a"`: "\n", `"\x61"`: "a", `"a"`: "a",
		"set": "set", "protect": "protect", "deactivate": "deactivate", "inactive": "inactive", "*": "*", forty: forty, `"` + strings.Repeat(`\xff`, 40) + `"`: strings.Repeat("\xff", 40),
	} {
		good(t, "set "+written+";", list(line(0, w)))
		good(t, "set "+written+" "+written+"; deactivate "+written+";protect "+written+" "+written+" ;", list(api.Line{Word: w, Mark: 1}, api.Line{Depth: 1, Word: w, Mark: 2}))
	}
	good(t, `"set" a; "deactivate" a; "\x70rotect" a;`, list(api.Line{Word: "a", Mark: 3}))
	good(t, `set"a b"c;`, list(line(0, "a b"), line(1, "c")))
}

// P6.3: comments and blanks stand between any two tokens.
func TestReadComments(t *testing.T) {
	for _, between := range []string{" ", "\n", "\t\r\n", "#\n", " # ; \"\n", " /**/ ", " /* set x; \n*/ "} {
		good(t, strings.Join([]string{"", "set", "b", "a", ";", "set", "a", ";", "protect", "b", ";", "deactivate", "b", "a", ";", ""}, between),
			list(line(0, "a"), api.Line{Word: "b", Mark: 2}, api.Line{Depth: 1, Word: "a", Mark: 1}))
	}
	good(t, "set a# b\n; #set c;", list(line(0, "a")))
}

// P6.3: paths of as many words as there may be, and of more.
func TestReadDeep(t *testing.T) {
	for n := 1; n <= api.MaxDepth; n++ {
		s := strings.Repeat(" x", n)
		good(t, "set"+s+";", chain(n))
		want := chain(n)
		want[n-1].Mark = 3
		good(t, "set"+s+";protect"+s+";deactivate"+s+";", want)
	}
	for _, verb := range verbs {
		s := verb + strings.Repeat(" x", 17)
		for _, behind := range []string{"", ";", " x;", " x x", " }", "{", " inactive:", "; put a;", "; protect a;"} {
			bad(t, s+behind, len(verb)+33, api.ErrDeep)
			bad(t, "set a; "+s+behind, len(verb)+40, api.ErrDeep)
		}
		bad(t, verb+" "+strings.Repeat(" \"\"", 17)+";", len(verb)+50, api.ErrDeep)
		bad(t, verb+strings.Repeat(" x", 100000)+";", len(verb)+33, api.ErrDeep)
		for _, behind := range []string{"{", "}", "inactive:", "protect:"} {
			bad(t, verb+strings.Repeat(" x", 16)+" "+behind+" x;", len(verb)+33, api.ErrForm)
		}
		bad(t, verb+strings.Repeat(" x", 16), len(verb)+32, api.ErrForm)
	}
}

// P6.3: as many lines as there may be, and more: the place is the command's.
func TestReadLong(t *testing.T) {
	full := flatText(200)
	good(t, full, flat(200))
	good(t, full+"set aa; set hr;"+full, flat(200))
	good(t, flatText(184)+"set"+strings.Repeat(" x", 16)+";", append(flat(184), chain(16)...))
	marked := flat(200)
	marked[199].Mark = 3
	good(t, full+"protect hr; deactivate hr;", marked)
	for _, behind := range []string{"set z;", "set aa z;", "set z; protect z;", "set z; set;", "set z; put", "set z" + strings.Repeat(" z", 15) + ";", `set "";`} {
		bad(t, full+behind, 1400, api.ErrLong)
		bad(t, full+" /**/ set aa; "+behind, 1414, api.ErrLong)
	}
	bad(t, flatText(199)+"set z y;", 1393, api.ErrLong)
	bad(t, flatText(199)+"set z; set z y;", 1400, api.ErrLong)
	bad(t, flatText(185)+"set"+strings.Repeat(" x", 16)+";", 1295, api.ErrLong)
	bad(t, full+"protect z;", 1400, api.ErrNone)
}

// P6.3: a path that has no line yet: the place is the command's.
func TestReadNone(t *testing.T) {
	for _, verb := range []string{"protect", "deactivate"} {
		bad(t, verb+" a;", 0, api.ErrNone)
		bad(t, " /**/ "+verb+" a;", 6, api.ErrNone)
		bad(t, verb+" a; set a;", 0, api.ErrNone)
		bad(t, "set a; "+verb+" b;", 7, api.ErrNone)
		bad(t, "set a; "+verb+" a a;", 7, api.ErrNone)
		bad(t, "set a b; "+verb+" b;", 9, api.ErrNone)
		bad(t, "set a b; "+verb+" a; "+verb+" a c;", 13+len(verb), api.ErrNone)
		bad(t, "set a b; "+verb+" a b c;", 9, api.ErrNone)
		bad(t, `set a b; `+verb+` "a b";`, 9, api.ErrNone)
		bad(t, "set a;\n"+verb+` "";`, 7, api.ErrNone)
		bad(t, verb+strings.Repeat(" x", 16)+";", 0, api.ErrNone)
	}
}

// P6.3: a first word that is none of the three.
func TestReadFirstWord(t *testing.T) {
	for _, w := range []string{"put", "Set", "sett", "se", `""`, `"set "`, "delete", "activate", "inactive", "unprotect", forty, "set:", "*", `"inactive:"`, "a"} {
		for _, behind := range []string{"", ";", " a;", " set a;", strings.Repeat(" x", 17) + ";"} {
			bad(t, w+behind, 0, api.ErrForm)
			bad(t, "set a; "+w+behind, 7, api.ErrForm)
		}
	}
}

// P6.3: at each place of a command each kind of token goes on, or is told with its place.
func TestReadForm(t *testing.T) {
	spots := map[string]string{"": "", "set": "w", "deactivate": "w", "protect": "w", "set a": "we", "set a set": "we", "set b; ": "", "set b; set b": "we", "set b; protect b; protect ": "w", "set" + strings.Repeat(" x", 16): "e"}
	for s, next := range spots {
		for k, kind := range map[string]string{"a": "w", `"a b"`: "w", ";": "e", "{": "", "}": "", "inactive:": "m", "protect:": "m"} {
			at := len(s) + 1
			for _, behind := range []string{"", ";", " a;", " ; set a;", " put"} {
				_, place, e := Read(s + " " + k + behind)
				if kind != "" && strings.Contains(next, kind) {
					if e == api.ErrForm && place <= at {
						t.Errorf("%q: the %s goes on: %d", s+" "+k+behind, k, place)
					}
				} else if kind != "w" || !strings.HasSuffix(s, "x") {
					bad(t, s+" "+k+behind, at, api.ErrForm)
					bad(t, s+" /* ; */"+k+behind, at+7, api.ErrForm)
				}
			}
		}
	}
	bad(t, ";", 0, api.ErrForm)
	bad(t, "set a;;", 6, api.ErrForm)
	bad(t, "set;", 3, api.ErrForm)
	bad(t, "set a; b;", 7, api.ErrForm)
	bad(t, "set a { b; }", 6, api.ErrForm)
	bad(t, "protect: a;", 0, api.ErrForm)
}

// P6.3: where a token is missing, the place is the text's length, blanks and comments with it.
func TestReadMissing(t *testing.T) {
	for _, s := range []string{"set", "deactivate", "protect", "set a", "set a b", "set b; set", "set b; protect a", "protect a", "set b; deactivate b", `"set"`, `set ""`, flatText(200) + "set z", "set" + strings.Repeat(" x", 16)} {
		for _, behind := range []string{"", " ", "\n\n", " # ;", " /* ; */", "\n# ;\n "} {
			bad(t, s+behind, len(s+behind), api.ErrForm)
		}
	}
}

// P6.3: layer 2's errors are told ahead of all others, wherever they stand.
func TestReadLex(t *testing.T) {
	for s, at := range map[string]int{",": 0, "set a; ,": 7, "/*": 0, "set /* ;": 4, `"`: 0, `set a; set "b;`: 11, `set "\y";`: 4, "\xff": 0, "put a; ,": 7, "; ,": 2, "protect a; /*": 11,
		flatText(201) + ",": 1407, "set" + strings.Repeat(" x", 17) + ",": 37} {
		bad(t, s, at, api.ErrForm)
	}
	for s, at := range map[string]int{fortyOne: 0, "set " + fortyOne + ";": 4, "set a; protect " + fortyOne + ";": 15, `put "` + fortyOne + `"`: 4, "; " + fortyOne: 2, "protect a; set " + fortyOne: 15,
		"set " + fortyOne + " ,": 4, "set" + strings.Repeat(" x", 17) + " " + fortyOne: 38, flatText(201) + fortyOne: 1407} {
		bad(t, s, at, api.ErrLong)
	}
}

// P6.3: of several errors in one text that of the first command is told; in a command its form and depth go ahead.
func TestReadFirst(t *testing.T) {
	seventeen := strings.Repeat(" x", 17) + ";"
	bad(t, "protect a; put a;", 0, api.ErrNone)
	bad(t, "put a; protect a;", 0, api.ErrForm)
	bad(t, "set a; protect b; set;", 7, api.ErrNone)
	bad(t, "set a; set; protect b;", 10, api.ErrForm)
	bad(t, "protect a; set"+seventeen, 0, api.ErrNone)
	bad(t, "set"+seventeen+" protect a;", 36, api.ErrDeep)
	bad(t, "protect"+seventeen, 40, api.ErrDeep)
	bad(t, "protect"+strings.TrimSuffix(seventeen, ";"), 40, api.ErrDeep)
	bad(t, "protect a {", 10, api.ErrForm)
	bad(t, "protect a", 9, api.ErrForm)
	bad(t, "put"+seventeen, 0, api.ErrForm)
	bad(t, "set { "+seventeen, 4, api.ErrForm)
	bad(t, flatText(200)+"set"+seventeen, 1436, api.ErrDeep)
	bad(t, flatText(200)+"set z }", 1406, api.ErrForm)
	bad(t, flatText(200)+"set z; protect y;", 1400, api.ErrLong)
	bad(t, flatText(200)+"protect y; set z;", 1400, api.ErrNone)
	bad(t, flatText(201)+"put;", 1400, api.ErrLong)
}

// letters are tokens, one letter each; as words they stand in the same order as the letters.
var letters = map[byte]string{'a': "a", 'b': `"a b"`, 'd': "deactivate", 'p': "protect", 's': "set", ';': ";", '{': "{", 'm': "protect:"}

var (
	command = regexp.MustCompile(`^[dps][abdps]+;`)
	begun   = regexp.MustCompile(`^([dps]([abdps]*|[abdps]+;))?$`)
)

// formFault tells the place of the first letter that cannot go on.
func formFault(ls string) int {
	for i := range len(ls) {
		if !begun.MatchString(ls[:i+1]) {
			return i
		}
	}
	return len(ls)
}

// does says a command's words again, of letters, of paths with their marks; false, if it has no line.
func does(paths map[string]int, verb byte, p string) bool {
	if verb == 's' {
		for n := range len(p) {
			paths[p[:n+1]] |= 0
		}
		return true
	}
	mark, there := paths[p]
	paths[p] = mark | map[byte]int{'d': 1, 'p': 2}[verb]
	return there
}

// readAgain says the chapter's words again, of letters: all paths with their marks, or the letter of an error.
func readAgain(ls string) (map[string]int, int, api.Errno) {
	paths := map[string]int{}
	for at := 0; at < len(ls); {
		c := command.FindString(ls[at:])
		if c == "" {
			return nil, at + formFault(ls[at:]), api.ErrForm
		}
		if !does(paths, c[0], c[1:len(c)-1]) {
			return nil, at, api.ErrNone
		}
		at += len(c)
	}
	return paths, 0, api.OK
}

// eachText calls f with all texts of few tokens; of those that have an error ahead of their end it goes on no more, as nothing can turn it.
func eachText(n int, f func(ls string)) {
	var grow func(ls string)
	grow = func(ls string) {
		f(ls)
		if _, at, e := readAgain(ls); len(ls) == n || e != api.OK && at < len(ls) {
			return
		}
		for _, l := range "abdps;{m" {
			grow(ls + string(l))
		}
	}
	grow("")
}

// written writes letters as a text, and tells each one's place, and the text's length.
func written(ls string) (string, []int) {
	s := ""
	var places []int
	for i := range len(ls) {
		places = append(places, len(s))
		s += letters[ls[i]] + " "
	}
	return s, append(places, len(s))
}

// told writes a tree as paths of letters, in order, with their marks.
func told(x []api.Line) []string {
	var out []string
	for i, l := range x {
		p, _ := tree.Path(x, i)
		s := ""
		for _, w := range p {
			s += map[string]string{"a": "a", "a b": "b", "deactivate": "d", "protect": "p", "set": "s"}[w]
		}
		out = append(out, s+" "+string(rune('0'+l.Mark)))
	}
	return out
}

// sorted writes paths as told does.
func sorted(paths map[string]int) []string {
	var out []string
	for p, mark := range paths {
		out = append(out, p+" "+string(rune('0'+mark)))
	}
	slices.Sort(out)
	return out
}

// P6.3: all texts of few tokens, held against the chapter's words said again.
func TestReadShortTexts(t *testing.T) {
	trees := 0
	eachText(7, func(ls string) {
		want, place, fault := readAgain(ls)
		s, places := written(ls)
		if fault != api.OK {
			bad(t, s, places[place], fault)
			return
		}
		trees++
		x, at, e := Read(s)
		if at != 0 || e != api.OK || !tree.Right(x) || !slices.Equal(told(x), sorted(want)) {
			t.Errorf("%q: %v, %d, %d; it should be %q", s, x, at, e, sorted(want))
		}
	})
	if trees < 3000 {
		t.Errorf("only %d trees", trees)
	}
}

// commandsOf parts a text of commands, that has no ; within words.
func commandsOf(s string) []string {
	all := strings.SplitAfter(s, ";")
	return all[:len(all)-1]
}

// P6.4, P2: the commands of a tree are read as that tree, and their tree has the same commands.
func TestCommandsAreRead(t *testing.T) {
	for _, x := range [][]api.Line{nil, large(), chain(16), flat(200), append(flat(184), chain(16)...), deeper("x", flat(199))} {
		for m := range 4 {
			y := slices.Clone(x)
			for i := range y {
				y[i].Mark = (y[i].Mark + i + m) % 4
			}
			s, e := Text(y)
			if e != api.OK {
				t.Errorf("%v: %d", y, e)
			}
			good(t, s, y)
			good(t, s+s, y)
		}
	}
	eachText(7, func(ls string) {
		s, _ := written(ls)
		if x, _, e := Read(s); e == api.OK {
			again, _ := Text(x)
			good(t, again, x)
		}
	})
}

// P6.4: a command that stands twice, at once or later on, does no more than once.
func TestCommandTwice(t *testing.T) {
	check := func(s string) {
		x, _, e := Read(s)
		if e != api.OK {
			t.Errorf("%q: %d", s, e)
		}
		all := commandsOf(s)
		for i, c := range all {
			for k := i + 1; k <= len(all); k++ {
				good(t, strings.Join(slices.Insert(slices.Clone(all), k, c), " "), x)
			}
		}
	}
	eachTree(func(x []api.Line) {
		if len(x) < 5 {
			check(said(x))
		}
	})
	check(largeText)
	check("set c; protect c; set b c; deactivate b; set b a; protect b; deactivate b a; set a; protect a;")
}

// P1, P6.3: of whatever bytes, layer 2's error and place, or a tree, or an error at a token or the end.
func TestReadBytes(t *testing.T) {
	pieces := []string{"set", "protect ", "deactivate ", " a", "inactive:", "{", "}", ";", "\n", "#", "/*", "*/", `"`, `\`, ",", "\xff", fortyOne}
	var grow func(s string, left int)
	grow = func(s string, left int) {
		checkBytes(t, s)
		if left == 0 {
			return
		}
		for _, p := range pieces {
			grow(s+p, left-1)
		}
	}
	grow("", 4)
}

func checkBytes(t *testing.T, s string) {
	tokens, place, fault := lex.All(s)
	if fault != api.OK {
		bad(t, s, place, fault)
		return
	}
	x, at, e := Read(s)
	begins := slices.ContainsFunc(tokens, func(k lex.Token) bool { return k.At == at })
	switch e {
	case api.OK:
		if at != 0 || !tree.Right(x) {
			t.Errorf("%q: %v, %d", s, x, at)
		}
	case api.ErrForm, api.ErrNone:
		if len(x) != 0 || !begins && (e != api.ErrForm || at != len(s)) {
			t.Errorf("%q: %v, %d, %d", s, x, at, e)
		}
	default:
		t.Errorf("%q: %d", s, e)
	}
}

// R1, R3, R4: asked twice, a text, and a tree, answer the same; the tree stays as it was.
func TestTwice(t *testing.T) {
	const s = "set b d; set a; protect a; deactivate b d;"
	want := list(api.Line{Word: "a", Mark: 2}, line(0, "b"), api.Line{Depth: 1, Word: "d", Mark: 1})
	first, _, _ := Read(s)
	good(t, s, want)
	for i := range first {
		first[i] = api.Line{Word: "q"}
	}
	bad(t, "set a; protect b;", 7, api.ErrNone)
	good(t, s, want)
	x := large()
	text(t, x, largeText)
	text(t, x, largeText)
	if !slices.Equal(x, large()) {
		t.Errorf("Text wrote into its tree: %v", x)
	}
}

// P1: long texts end, too.
func TestReadEnds(t *testing.T) {
	good(t, strings.Repeat("set a b;", 20000)+strings.Repeat("protect a;", 20000), list(api.Line{Word: "a", Mark: 2}, line(1, "b")))
	good(t, strings.Repeat("/* set a; */ \n", 100000)+"set a;", list(line(0, "a")))
	good(t, flatText(200)+strings.Repeat("set aa;", 2000), flat(200))
	bad(t, strings.Repeat(";", 100000), 0, api.ErrForm)
	bad(t, strings.Repeat("set ", 100000), 68, api.ErrDeep)
	bad(t, strings.Repeat("set;", 100000), 3, api.ErrForm)
}

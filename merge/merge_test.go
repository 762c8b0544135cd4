package merge

import (
	"fmt"
	"maps"
	"math"
	"slices"
	"strings"
	"testing"

	"ferryslip/api"
	"ferryslip/lines"
	"ferryslip/tree"
)

var (
	forty    = strings.Repeat("a", api.MaxWord)
	fortyOne = strings.Repeat("a", api.MaxWord+1)
)

// line is one without marks.
func line(depth int, w string) api.Line { return api.Line{Depth: depth, Word: w} }

// signed is one with a mark.
func signed(depth int, w string, mark int) api.Line {
	return api.Line{Depth: depth, Word: w, Mark: mark}
}

func list(t ...api.Line) []api.Line { return t }

func path(words ...string) []string { return words }

func all(p ...[]string) [][]string { return p }

// xs is a path of n words.
func xs(n int) []string { return slices.Repeat(path("x"), n) }

// chain has n lines, each under the one ahead.
func chain(n int) []api.Line {
	var t []api.Line
	for i := range n {
		t = append(t, line(i, "x"))
	}
	return t
}

// flatWord is the Word of flat's line at i: aa, ab, ac and so on.
func flatWord(i int) string { return string([]byte{'a' + byte(i/26), 'a' + byte(i%26)}) }

// flat has n lines of Depth 0.
func flat(n int) []api.Line {
	var t []api.Line
	for i := range n {
		t = append(t, line(0, flatWord(i)))
	}
	return t
}

// deeper puts lines under one.
func deeper(w string, t []api.Line) []api.Line {
	out := list(line(0, w))
	for _, l := range t {
		l.Depth++
		out = append(out, l)
	}
	return out
}

// some are numbers from 0 to 200, with the ends and the middle.
func some() []int { return []int{0, 1, 2, 7, 50, 99, 100, 101, 149, 183, 197, 198, 199, 200} }

// withMark is t with a mark at one line.
func withMark(t []api.Line, i, mark int) []api.Line {
	t = slices.Clone(t)
	t[i].Mark = mark
	return t
}

// allMarked is t with a mark at each line.
func allMarked(t []api.Line, mark int) []api.Line {
	t = slices.Clone(t)
	for i := range t {
		t[i].Mark = mark
	}
	return t
}

// read makes a tree of commands.
func read(t *testing.T, s string) []api.Line {
	t.Helper()
	x, at, e := lines.Read(s)
	if e != api.OK {
		t.Fatalf("%q: %d, %d", s, at, e)
	}
	return x
}

// pathsOf tells the path of each line.
func pathsOf(t []api.Line) [][]string {
	var l [][]string
	for i := range t {
		p, _ := tree.Path(t, i)
		l = append(l, p)
	}
	return l
}

// noTrees are lists of lines that are no tree, each for one cause.
func noTrees() [][]api.Line {
	return [][]api.Line{
		{line(1, "a")}, {line(-1, "a")}, {line(math.MinInt, "a")}, {line(math.MaxInt, "a")}, {line(16, "a")}, chain(17),
		{line(0, "a"), line(2, "b")}, {line(0, "a"), line(-1, "b")}, {line(0, "a"), line(math.MaxInt, "b")},
		{line(0, fortyOne)}, {line(0, "a"), line(1, fortyOne)}, {line(0, "a"), line(0, strings.Repeat("b", 100000))},
		{signed(0, "a", 4)}, {signed(0, "a", 6)}, {signed(0, "a", -1)}, {signed(0, "a", -2)}, {signed(0, "a", math.MinInt)}, {line(0, "a"), signed(1, "b", 4)},
		{line(0, "b"), line(0, "a")}, {line(0, "a"), line(0, "a")}, {line(0, ""), line(0, "")},
		{line(0, "a"), line(1, "b"), line(2, "x"), line(1, "b")}, {line(0, "a"), line(1, "b"), line(0, "a")},
		flat(201), append(flat(200), line(1, "a")), make([]api.Line, 201),
	}
}

// short writes what is told, as far as anybody reads on.
func short(x any) string { return fmt.Sprintf("%.300s", fmt.Sprintf("%q", fmt.Sprint(x))) }

func same(a, b [][]string) bool {
	return slices.EqualFunc(a, b, slices.Equal[[]string])
}

// answers fails, unless that comes out, those paths and that error, and the same where the sides change places.
func answers(t *testing.T, base, mine, theirs, want []api.Line, paths [][]string, fault api.Errno) {
	t.Helper()
	for range 2 {
		got, bad, e := Of(base, mine, theirs)
		if e != fault || !slices.Equal(got, want) || !same(bad, paths) {
			t.Errorf("%s, %s and %s: %s, %s, %d; it should be %s, %s, %d", short(base), short(mine), short(theirs), short(got), short(bad), e, short(want), short(paths), fault)
		}
		mine, theirs = theirs, mine
	}
}

// merged fails, unless that tree comes out.
func merged(t *testing.T, base, mine, theirs, want []api.Line) {
	t.Helper()
	answers(t, base, mine, theirs, want, nil, api.OK)
}

// conflict fails, unless those paths conflict.
func conflict(t *testing.T, base, mine, theirs []api.Line, paths [][]string) {
	t.Helper()
	answers(t, base, mine, theirs, nil, paths, api.ErrConflict)
}

// refused fails, unless it is that error, with nothing beside it.
func refused(t *testing.T, base, mine, theirs []api.Line, fault api.Errno) {
	t.Helper()
	answers(t, base, mine, theirs, nil, nil, fault)
}

// P9.1: the chapter's example, and others of all kinds, as commands.
func TestExamples(t *testing.T) {
	conflict(t, read(t, "set a;"), read(t, "set a b;"), nil, all(path("a", "b")))
	for _, c := range []struct{ base, mine, theirs, want string }{
		{"", "set a b; set c;", "", "set a b; set c;"},
		{"set a b; set a c;", "set a b; set a c; set a d;", "set a c;", "set a c; set a d;"},
		{"set a;", "set a b;", "set a; protect a;", "set a b; protect a;"},
		{"set a b;", "", "set a b;", ""},
		{"", "set a x;", "set a y;", "set a x; set a y;"},
		{"set a; deactivate a;", "set a;", "set a;", "set a;"},
		{"set a; set c;", "set a; set b; set c;", "set a; set c; set d;", "set a; set b; set c; set d;"},
		{"set a b; set c d;", "set c d e;", "set a b; set c d; deactivate c;", "set c d e; deactivate c;"},
		{"set a b; set a c;", "set a b;", "set a c;", "set a;"},
		{"set a b c;", "set a b;", "set a;", "set a;"},
	} {
		merged(t, read(t, c.base), read(t, c.mine), read(t, c.theirs), read(t, c.want))
	}
	for _, c := range []struct {
		base, mine, theirs string
		paths              [][]string
	}{
		{"set a;", "set a; deactivate a;", "set a; protect a;", all(path("a"))},
		{"set a;", "", "set a; deactivate a;", all(path("a"))},
		{"", "set a; deactivate a;", "set a;", all(path("a"))},
		{"set a b;", "", "set a b c; set a d;", all(path("a", "b", "c"), path("a", "d"))},
		{"set a; set b;", "set a c;", "set b d;", all(path("a", "c"), path("b", "d"))},
		{"set a; set b; set c;", "set a; set b; set c d;", "set a; set b; protect a;", all(path("c", "d"))},
	} {
		conflict(t, read(t, c.base), read(t, c.mine), read(t, c.theirs), c.paths)
	}
}

// someWhole are trees of which each is to come out as it is, where nothing stands against it.
func someWhole() [][]api.Line {
	return [][]api.Line{nil, {}, {line(0, "a")}, {line(0, "")}, {signed(0, "a", 3)}, {line(0, forty)}, {line(0, "a"), signed(1, "b", 2), line(0, "c")},
		chain(16), allMarked(chain(16), 3), flat(200), allMarked(flat(200), 3), deeper("x", flat(199)), append(flat(184), chain(16)...)}
}

// P9.1, P9.2: three empty trees; one, and two, of them empty; all three equal; both sides the same; one side the base, and either side.
func TestAlike(t *testing.T) {
	for _, x := range someWhole() {
		for _, none := range [][]api.Line{nil, {}} {
			merged(t, none, none, none, nil)
			merged(t, none, x, none, x)
			merged(t, none, none, x, x)
			merged(t, none, x, x, x)
			merged(t, x, none, none, nil)
			merged(t, x, x, none, nil)
			merged(t, x, none, x, nil)
		}
		for _, y := range someWhole() {
			merged(t, x, x, x, x)
			merged(t, y, x, x, x)
			merged(t, y, x, slices.Clone(x), x)
			merged(t, y, y, x, x)
			merged(t, y, x, y, x)
		}
	}
}

// with puts a line, of a mark, or of -1 none, at the end of a chain of n lines.
func with(n, mark int) []api.Line {
	if mark < 0 {
		return chain(n)
	}
	return append(chain(n), signed(n, "y", mark))
}

// P9.1: one path in each of its states in each of the trees, at each Depth.
func TestStates(t *testing.T) {
	for n := range api.MaxDepth {
		for base := -1; base < 4; base++ {
			for mine := -1; mine < 4; mine++ {
				for theirs := -1; theirs < 4; theirs++ {
					a, b, c := with(n, base), with(n, mine), with(n, theirs)
					turned := 0
					want := base
					for _, side := range []int{mine, theirs} {
						if side != base {
							turned++
							want = side
						}
					}
					if turned == 2 && mine != theirs {
						conflict(t, a, b, c, all(append(xs(n), "y")))
					} else {
						merged(t, a, b, c, with(n, want))
					}
				}
			}
		}
	}
}

// P9.1: sides that turned the marks of several lines, alike and unlike.
func TestMarks(t *testing.T) {
	x := list(line(0, "a"), line(1, "b"), signed(1, "c", 1), line(0, "d"), signed(0, "e", 2))
	y := list(signed(0, "a", 3), line(1, "b"), signed(1, "c", 2), line(0, "d"), line(0, "e"))
	z := list(signed(0, "a", 3), signed(1, "b", 1), signed(1, "c", 1), signed(0, "d", 2), signed(0, "e", 2))
	merged(t, x, y, z, list(signed(0, "a", 3), signed(1, "b", 1), signed(1, "c", 2), signed(0, "d", 2), line(0, "e")))
	conflict(t, x, y, withMark(z, 0, 1), all(path("a")))
	conflict(t, x, y, withMark(z, 2, 3), all(path("a", "c")))
	conflict(t, x, y, withMark(withMark(z, 4, 1), 2, 0), all(path("a", "c"), path("e")))
	conflict(t, nil, y, z, all(path("a", "b"), path("a", "c"), path("d"), path("e")))
	for _, i := range some()[:13] {
		merged(t, flat(200), withMark(flat(200), i, 1), withMark(flat(200), 199-i, 1), withMark(withMark(flat(200), i, 1), 199-i, 1))
		conflict(t, flat(200), withMark(flat(200), i, 1), allMarked(flat(200), 2), all(path(flatWord(i))))
	}
	for i := range api.MaxDepth {
		conflict(t, chain(16), withMark(chain(16), i, 1), withMark(chain(16), i, 2), all(xs(i+1)))
		conflict(t, chain(16), withMark(chain(16), i, 1), allMarked(chain(16), 3), all(xs(i+1)))
	}
}

// P9.1: one side turned a mark where the other one took the line away, and where it took away a line above.
func TestMarkedAndGone(t *testing.T) {
	for n := range api.MaxDepth {
		for i := n; i < api.MaxDepth; i++ {
			// The lines between are as they were, so that they are decided as absent.
			conflict(t, chain(16), chain(n), withMark(chain(16), i, 1), all(xs(i+1)))
			conflict(t, allMarked(chain(16), 3), allMarked(chain(n), 3), withMark(allMarked(chain(16), 3), i, 0), all(xs(i+1)))
			// Nothing of the line itself is told, as it is not torn, and the line above it neither.
			merged(t, chain(16), chain(i+1), withMark(chain(16), n, 1), withMark(chain(i+1), n, 1))
		}
		conflict(t, chain(16), chain(n), allMarked(chain(16), 1), pathsOf(chain(16))[n:])
		merged(t, chain(16), chain(n), allMarked(chain(n), 1), allMarked(chain(n), 1))
	}
	x := list(line(0, "a"), line(1, "b"), line(2, "c"), line(1, "d"))
	conflict(t, x, nil, withMark(x, 0, 1), all(path("a")))
	conflict(t, x, nil, withMark(x, 3, 1), all(path("a", "d")))
	conflict(t, x, x[:1], withMark(x, 2, 1), all(path("a", "b", "c")))
	conflict(t, x, nil, withMark(withMark(x, 3, 2), 2, 1), all(path("a", "b", "c"), path("a", "d")))
	merged(t, x, slices.Concat(x[:1], x[3:]), withMark(x, 3, 2), slices.Concat(x[:1], withMark(x, 3, 2)[3:]))
}

// P9.1: a line that both sides added, with each two marks, alone and with lines under it.
func TestBothAdded(t *testing.T) {
	x := list(line(0, "a"), line(0, "c"))
	for mine := range 4 {
		for theirs := range 4 {
			one := slices.Insert(slices.Clone(x), 1, signed(0, "b", mine), line(1, "x"))
			other := slices.Insert(slices.Clone(x), 1, signed(0, "b", theirs), signed(1, "y", 1))
			if mine == theirs {
				merged(t, x, one, other, slices.Insert(slices.Clone(one), 3, signed(1, "y", 1)))
				merged(t, nil, one, one, one)
			} else {
				// What stands under a path that is torn doesn't conflict, as its path without the last word is not absent.
				conflict(t, x, one, other, all(path("b")))
			}
		}
	}
	conflict(t, nil, allMarked(chain(16), 1), allMarked(chain(16), 2), pathsOf(chain(16)))
	conflict(t, nil, allMarked(flat(200), 1), allMarked(flat(200), 2), pathsOf(flat(200)))
	conflict(t, flat(200), allMarked(flat(200), 1), allMarked(flat(200), 2), pathsOf(flat(200)))
}

// P9.1: a line that one side added under one that the other side took away, and under one that stands in its place anew.
func TestAddedUnderGone(t *testing.T) {
	x := list(line(0, "a"), line(0, "b"), line(1, "c"), line(2, "d"), line(0, "e"))
	added := func(at, depth int) []api.Line {
		return slices.Insert(slices.Clone(x), at, line(depth, "z"))
	}
	conflict(t, x, x[1:], added(1, 1), all(path("a", "z")))
	conflict(t, x, x[:4], added(5, 1), all(path("e", "z")))
	conflict(t, x, slices.Concat(x[:1], x[4:]), added(4, 1), all(path("b", "z")))
	conflict(t, x, slices.Concat(x[:1], x[4:]), added(4, 2), all(path("b", "c", "z")))
	conflict(t, x, slices.Concat(x[:1], x[4:]), added(4, 3), all(path("b", "c", "d", "z")))
	conflict(t, x, slices.Concat(x[:2], x[4:]), added(4, 2), all(path("b", "c", "z")))
	merged(t, x, slices.Concat(x[:2], x[4:]), added(4, 1), slices.Concat(x[:2], list(line(1, "z"), line(0, "e"))))
	merged(t, x, slices.Concat(x[:3], x[4:]), added(4, 2), slices.Concat(x[:3], list(line(2, "z"), line(0, "e"))))
	// Of a part that was added under one that is gone, the first line alone has nothing above it.
	part := slices.Insert(slices.Clone(x), 1, line(1, "y"), signed(2, "y", 1), line(3, "y"), line(1, "z"))
	conflict(t, x, x[1:], part, all(path("a", "y"), path("a", "z")))
	conflict(t, x, nil, part, all(path("a", "y"), path("a", "z")))
	// Taken away, and put there anew, with another mark and with other lines under it: it is the same path.
	anew := list(signed(0, "a", 2), line(0, "b"), line(1, "d"), line(0, "e"))
	merged(t, x, anew, added(1, 1), list(signed(0, "a", 2), line(1, "z"), line(0, "b"), line(1, "d"), line(0, "e")))
	merged(t, x, anew, added(4, 1), slices.Concat(anew[:3], list(line(1, "z")), anew[3:]))
	conflict(t, x, anew, added(4, 2), all(path("b", "c", "z")))
	conflict(t, x, anew, added(4, 3), all(path("b", "c", "d", "z")))
	// Another word stands in its place.
	other := list(line(0, "aa"), line(1, "q"), line(0, "b"), line(1, "cc"), line(2, "d"), line(0, "e"))
	conflict(t, x, other, added(1, 1), all(path("a", "z")))
	conflict(t, x, other, added(4, 2), all(path("b", "c", "z")))
	merged(t, x, other, added(4, 1), slices.Concat(other[:5], list(line(1, "z")), other[5:]))
	for n := range api.MaxDepth - 1 {
		conflict(t, chain(n+1), chain(n), chain(16), all(xs(n+2)))
		conflict(t, chain(n+1), nil, chain(16), all(xs(n+2)))
		conflict(t, allMarked(chain(n+1), 1), nil, slices.Concat(allMarked(chain(n+1), 1), chain(16)[n+1:]), all(xs(n+2)))
	}
}

// P9.1: a part of many lines that one side took away, with and without a change in it.
func TestGoneWhole(t *testing.T) {
	x := deeper("x", flat(198))
	base := append(slices.Clone(x), line(0, "y"))
	rest := list(line(0, "y"))
	merged(t, base, rest, base, rest)
	merged(t, base, rest, withMark(base, 199, 3), withMark(rest, 0, 3))
	merged(t, base, rest, x, nil)
	for _, i := range some()[:11] {
		p := all(path("x", flatWord(i)))
		conflict(t, base, rest, withMark(base, i+1, 2), p)
		merged(t, base, rest, slices.Delete(slices.Clone(base), i+1, i+2), rest)
		conflict(t, base, rest, slices.Insert(slices.Clone(base)[:199], i+2, line(2, "z")), all(path("x", flatWord(i), "z")))
	}
	conflict(t, base, rest, withMark(base, 0, 1), all(path("x")))
	conflict(t, base, rest, allMarked(base, 1), pathsOf(x))
	conflict(t, base, rest, append(slices.Clone(x), line(1, "z")), all(path("x", "z")))
}

// P9.1: sides that changed different parts.
func TestDifferentParts(t *testing.T) {
	part := func(w string) []api.Line {
		return deeper(w, list(line(0, "a"), line(1, "b"), line(2, "c"), line(0, "d")))
	}
	turned := func(w string) []api.Line {
		return deeper(w, list(signed(0, "a", 1), line(1, "c"), line(2, "c"), signed(2, "e", 2), line(0, "c"), line(0, "e")))
	}
	for _, a := range [][]api.Line{part("a"), turned("a"), nil} {
		for _, c := range [][]api.Line{part("c"), turned("c"), nil} {
			middle := list(line(0, "b"), line(1, "c"))
			merged(t, slices.Concat(part("a"), middle, part("c")), slices.Concat(a, middle, part("c")), slices.Concat(part("a"), middle, c), slices.Concat(a, middle, c))
			merged(t, slices.Concat(part("a"), middle, part("c")), slices.Concat(a, part("c")), slices.Concat(part("a"), middle, c), slices.Concat(a, c))
			merged(t, slices.Concat(middle, part("c")), slices.Concat(a, middle, part("c")), slices.Concat(middle, c), slices.Concat(a, middle, c))
		}
	}
	merged(t, flat(100), flat(100)[:50], flat(100)[50:], nil)
	merged(t, flat(100), flat(100)[10:], flat(100)[:90], flat(90)[10:])
	merged(t, flat(150)[50:], flat(150), flat(200)[50:], flat(200))
}

// P9.1, R5: words of all kinds; paths whose order by words is not that of their texts.
func TestWords(t *testing.T) {
	words := path("", "\x00", "\n", " ", "\"", "-", "A", "\\", "a", "a\x00", "a\x1f", "a ", "a a", "a!", "aa", "inactive:", "protect:", "{", "é", "\xff")
	var whole []api.Line
	for _, w := range words {
		whole = append(whole, line(0, w), line(1, ""), line(1, w+"x"), line(2, w))
	}
	merged(t, nil, whole, whole, whole)
	conflict(t, nil, whole, allMarked(whole, 1), pathsOf(whole))
	conflict(t, whole, allMarked(whole, 2), allMarked(whole, 1), pathsOf(whole))
	conflict(t, whole, nil, allMarked(whole, 1), pathsOf(whole))
	for i := range words {
		less := slices.Concat(whole[:4*i], whole[4*i+4:])
		merged(t, nil, whole[4*i:4*i+4], less, whole)
		merged(t, less, less, whole, whole)
		merged(t, whole, less, whole, less)
		conflict(t, whole, less, withMark(whole, 4*i+3, 1), pathsOf(whole)[4*i+3:4*i+4])
		conflict(t, whole, less, allMarked(whole, 1), pathsOf(whole)[4*i:4*i+4])
		merged(t, nil, less, whole, whole)
	}
	// As texts, with a blank between the words, a and z would stand behind most of the others.
	ordered := list(line(0, "a"), line(1, "z"), line(0, "a\x00"), line(0, "a\x1f"), line(1, "a"), line(0, "a a"), line(0, "a!"), line(0, "aa"))
	conflict(t, nil, ordered, allMarked(ordered, 1), all(path("a"), path("a", "z"), path("a\x00"), path("a\x1f"), path("a\x1f", "a"), path("a a"), path("a!"), path("aa")))
	merged(t, nil, ordered[:2], ordered[2:], ordered)
	merged(t, nil, list(ordered[0], ordered[1], ordered[3], ordered[4], ordered[7]), list(ordered[2], ordered[5], ordered[6]), ordered)
	// Words that, run into one another, make the same text.
	merged(t, nil, list(line(0, "a"), line(1, "bc")), list(line(0, "ab"), line(1, "c")), list(line(0, "a"), line(1, "bc"), line(0, "ab"), line(1, "c")))
	merged(t, nil, list(line(0, "a"), line(1, "b")), list(signed(0, "a b", 1)), list(line(0, "a"), line(1, "b"), signed(0, "a b", 1)))
	merged(t, nil, list(line(0, ""), line(1, "")), list(line(0, ""), line(1, "a")), list(line(0, ""), line(1, ""), line(1, "a")))
	conflict(t, nil, list(line(0, ""), signed(1, "", 1)), list(line(0, ""), signed(1, "", 2)), all(path("", "")))
	// Words of as many bytes as there may be, unlike in the last one alone.
	last := forty[1:] + "b"
	merged(t, nil, list(line(0, forty), line(1, last)), list(line(0, last), line(1, forty)), list(line(0, forty), line(1, last), line(0, last), line(1, forty)))
	conflict(t, list(line(0, forty), line(0, last)), list(line(0, last)), list(line(0, forty), line(1, forty), line(0, last)), all(path(forty, forty)))
	conflict(t, nil, list(line(0, forty), line(0, last)), list(line(0, forty), signed(0, last, 3)), all(path(last)))
}

// P9.1: paths of as many words as there may be.
func TestDeep(t *testing.T) {
	y := append(chain(15), signed(15, "y", 3))
	both := append(chain(16), signed(15, "y", 3))
	merged(t, chain(15), chain(16), y, both)
	merged(t, nil, chain(16), y, both)
	merged(t, both, chain(16), y, chain(15))
	conflict(t, chain(15), chain(14), chain(16), all(xs(16)))
	conflict(t, chain(15), nil, both, all(xs(16), append(xs(15), "y")))
	merged(t, chain(16), chain(16), both, both)
	// Behind a deep path, one beside its beginnings is decided by those alone.
	conflict(t, append(chain(16), line(0, "y")), chain(16), append(chain(16), line(0, "y"), line(1, "z")), all(path("y", "z")))
	conflict(t, append(chain(16), line(0, "y")), list(line(0, "y")), append(chain(16), line(1, "y"), line(0, "y"), line(1, "z")), all(path("x", "y")))
	merged(t, append(chain(16), line(0, "y")), list(line(0, "y")), append(chain(16), line(0, "y"), line(1, "z")), list(line(0, "y"), line(1, "z")))
	merged(t, append(chain(2), line(0, "y"), line(1, "a")), append(chain(2), line(0, "y")), append(chain(1), line(0, "y"), line(1, "a"), line(1, "b")), append(chain(1), line(0, "y"), line(1, "b")))
}

// others are n lines of Depth 0, none of them one of flat's.
func others(letter string, n int) []api.Line {
	t := flat(n)
	for i := range t {
		t[i].Word = letter + t[i].Word
	}
	return t
}

// P9.1: as many lines as there may be, in each tree, and in what comes out.
func TestFull(t *testing.T) {
	whole := flat(200)
	for _, n := range some() {
		merged(t, nil, whole[:n], whole[n:], whole)
		merged(t, whole, whole[:n], whole[n:], nil)
		merged(t, whole, slices.Concat(whole[:n], others("y", 200-n)), slices.Concat(whole[n:], others("z", n)), slices.Concat(others("y", 200-n), others("z", n)))
		merged(t, whole[:n], whole, allMarked(whole[:n], 1), slices.Concat(allMarked(whole[:n], 1), whole[n:]))
	}
	merged(t, deeper("x", flat(199)[:100]), deeper("x", flat(199)), allMarked(deeper("x", flat(199)[:100]), 2), slices.Concat(allMarked(deeper("x", flat(199)[:100]), 2), deeper("x", flat(199))[101:]))
	merged(t, nil, append(flat(184), chain(16)...), flat(184), append(flat(184), chain(16)...))
	merged(t, nil, flat(184), chain(16), append(flat(184), chain(16)...))
}

// P9.1: more lines decided as there than there may be, by one and by many.
func TestLong(t *testing.T) {
	whole := flat(200)
	for _, n := range some()[1:] {
		refused(t, nil, flat(201)[:n], flat(201)[n:], api.ErrLong)
		refused(t, nil, whole, others("y", n), api.ErrLong)
	}
	// The sides take n lines away, each of them some, and add n + 1.
	base := flat(199)
	for _, n := range some()[1:13] {
		refused(t, base, slices.Concat(base[:n], others("y", 200-n)), slices.Concat(base[n:], others("z", n+1)), api.ErrLong)
		merged(t, base, slices.Concat(base[:n], others("y", 200-n)), slices.Concat(base[n:], others("z", n)), slices.Concat(others("y", 200-n), others("z", n)))
	}
	refused(t, whole, others("y", 200), others("z", 200), api.ErrLong)
	refused(t, deeper("x", flat(10)), deeper("x", flat(110)), append(deeper("x", flat(10)), others("y", 100)...), api.ErrLong)
	refused(t, chain(1), chain(16), append(chain(1), others("y", 185)...), api.ErrLong)
	merged(t, chain(1), chain(16), append(chain(1), others("y", 184)...), append(chain(16), others("y", 184)...))
	refused(t, nil, whole, allMarked(others("y", 200), 3), api.ErrLong)
}

// P9.1: all paths that conflict, torn ones and ones under none, in order, none twice; more of them than a tree may have.
func TestConflicts(t *testing.T) {
	base := list(line(0, "a"), line(1, "b"), line(0, "c"), line(1, "d"), line(2, "e"), line(0, "f"), line(0, "h"))
	mine := list(signed(0, "a", 1), line(0, "c"), line(1, "d"), line(2, "e"), signed(2, "f", 1), line(0, "f"), line(1, "z"), line(0, "g"), line(1, "x"))
	theirs := list(signed(0, "a", 2), signed(1, "b", 1), line(2, "c"), line(0, "c"), signed(0, "g", 1), line(1, "y"), line(0, "h"), line(1, "i"), line(2, "k"))
	// Of mine's d nothing is left but what was added; theirs' h is gone, and what it added stands under none.
	conflict(t, base, mine, theirs, all(path("a"), path("a", "b"), path("c", "d", "f"), path("f", "z"), path("g"), path("h", "i")))
	x, y := deeper("x", flat(199)), deeper("y", flat(199))
	gone := slices.Concat(pathsOf(x)[1:], pathsOf(y)[1:])
	conflict(t, list(line(0, "x"), line(0, "y")), x, y, gone)
	conflict(t, list(line(0, "x"), line(0, "y")), x, allMarked(y, 1), append(pathsOf(x)[1:], path("y")))
	conflict(t, list(line(0, "x"), line(0, "y")), allMarked(x, 2), allMarked(y, 1), all(path("x"), path("y")))
	conflict(t, flat(200), nil, allMarked(flat(200), 1), pathsOf(flat(200)))
	conflict(t, x, allMarked(x, 1), allMarked(x, 2), pathsOf(x))
	conflict(t, x, nil, allMarked(x, 1), pathsOf(x))
	for _, i := range some()[:13] {
		conflict(t, x, withMark(x, i, 1), withMark(x, i, 2), pathsOf(x)[i:i+1])
		conflict(t, x, withMark(x, i, 1), nil, pathsOf(x)[i:i+1])
	}
}

// P9.1: what is decided as there conflicts under what is decided as absent alone, not under what is torn, nor under what conflicts itself.
func TestUnderConflicts(t *testing.T) {
	abc := list(line(0, "a"), line(1, "b"), line(2, "c"))
	for _, c := range []struct {
		base, mine, theirs []api.Line
		paths              [][]string
	}{
		// Torn: by marks, and as one side took it away.
		{abc[:1], withMark(abc[:2], 0, 1), withMark(abc[:1], 0, 2), all(path("a"))},
		{abc[:1], nil, withMark(abc[:2], 0, 2), all(path("a"))},
		{abc[:1], nil, withMark(abc, 0, 2), all(path("a"))},
		{nil, withMark(abc, 0, 1), abc[:1], all(path("a"))},
		{abc[:2], nil, withMark(abc, 1, 1), all(path("a", "b"))},
		{abc[:2], abc[:1], withMark(abc, 1, 1), all(path("a", "b"))},
		{abc[:2], withMark(abc, 1, 2), withMark(abc, 1, 1), all(path("a", "b"))},
		// Torn under torn, and under absent.
		{abc, nil, allMarked(abc, 1), all(path("a"), path("a", "b"), path("a", "b", "c"))},
		{abc, nil, withMark(abc, 1, 1), all(path("a", "b"))},
		{abc, nil, withMark(abc, 2, 1), all(path("a", "b", "c"))},
		{abc, nil, withMark(withMark(abc, 0, 1), 2, 1), all(path("a"), path("a", "b", "c"))},
		{abc, withMark(abc[:2], 0, 2), withMark(withMark(abc, 0, 1), 2, 1), all(path("a"), path("a", "b", "c"))},
		// There under absent, and what is there under that one doesn't conflict.
		{abc[:1], nil, abc, all(path("a", "b"))},
		{abc[:2], nil, abc, all(path("a", "b", "c"))},
		{abc[:2], abc[:1], abc, all(path("a", "b", "c"))},
		{abc, abc[:1], list(line(0, "a"), line(1, "b"), line(2, "d")), all(path("a", "b", "d"))},
	} {
		conflict(t, c.base, c.mine, c.theirs, c.paths)
	}
}

// P9.1, R2: each of the three, and several of them, are no tree.
func TestWrong(t *testing.T) {
	for _, x := range noTrees() {
		for _, y := range [][]api.Line{nil, {}, {line(0, "a")}, chain(16), flat(200), x, noTrees()[0], flat(201)} {
			for _, z := range [][]api.Line{nil, {signed(0, "a", 1)}, allMarked(flat(200), 3), x, noTrees()[1]} {
				refused(t, x, y, z, api.ErrArg)
				refused(t, y, x, z, api.ErrArg)
				refused(t, y, z, x, api.ErrArg)
			}
		}
	}
}

// P9.1, R2: of several errors the one that is named first: no tree, a conflict, too many lines.
func TestErrorsInOrder(t *testing.T) {
	x := list(line(0, "0"))
	one := append(list(signed(0, "0", 1)), others("y", 199)...)
	other := append(list(signed(0, "0", 2)), others("z", 199)...)
	refused(t, x, append(slices.Clone(x), one[1:]...), append(slices.Clone(x), other[1:]...), api.ErrLong)
	conflict(t, x, one, other, all(path("0")))
	conflict(t, nil, one, other, all(path("0")))
	conflict(t, x, one[1:], append(list(line(0, "0"), line(1, "1")), other[1:199]...), all(path("0", "1")))
	conflict(t, others("x", 200), one, other, all(path("0")))
	conflict(t, allMarked(flat(200), 3), append(withMark(allMarked(flat(200), 3), 199, 0)[199:], others("y", 199)...), append(withMark(allMarked(flat(200), 3), 199, 1)[199:], others("z", 199)...), all(path(flatWord(199))))
	for _, none := range noTrees() {
		refused(t, none, one, other, api.ErrArg)
		refused(t, x, none, other, api.ErrArg)
		refused(t, x, none, none, api.ErrArg)
		refused(t, none, one[1:], other[1:], api.ErrArg)
	}
}

// key makes one text of a path; no word of the trees that are made for it has a byte 0, so that keys stand in order byte by byte as paths do word by word.
func key(p []string) string { return strings.Join(p, "\x00") }

// aboveKey is that of the path without its last word, if it has more than one.
func aboveKey(k string) (string, bool) {
	i := strings.LastIndexByte(k, 0)
	return k[:max(i, 0)], i >= 0
}

// states tells the state of each path that is there, as a Mark.
func states(t []api.Line) map[string]int {
	marks := map[string]int{}
	for i, p := range pathsOf(t) {
		marks[key(p)] = t[i].Mark
	}
	return marks
}

// verdict is how a path is decided.
type verdict struct {
	torn, there bool
	mark        int
}

// decide says the chapter's words of one path again.
func decide(k string, base, mine, theirs map[string]int) verdict {
	of := func(t map[string]int) verdict {
		mark, there := t[k]
		return verdict{there: there, mark: mark}
	}
	switch b, m, th := of(base), of(mine), of(theirs); {
	case m == th:
		return m
	case m == b:
		return th
	case th == b:
		return m
	}
	return verdict{torn: true}
}

// ofAgain says the chapter's words of all three trees again.
func ofAgain(base, mine, theirs []api.Line) ([]api.Line, [][]string, api.Errno) {
	b, m, th := states(base), states(mine), states(theirs)
	union := maps.Clone(b)
	maps.Copy(union, m)
	maps.Copy(union, th)
	var out []api.Line
	var conflicts [][]string
	for _, k := range slices.Sorted(maps.Keys(union)) {
		p := strings.Split(k, "\x00")
		v := decide(k, b, m, th)
		up, more := aboveKey(k)
		if above := decide(up, b, m, th); v.torn || v.there && more && !above.torn && !above.there {
			conflicts = append(conflicts, p)
		}
		if v.there {
			out = append(out, signed(len(p)-1, p[len(p)-1], v.mark))
		}
	}
	if len(conflicts) > 0 {
		return nil, conflicts, api.ErrConflict
	}
	if len(out) > 200 {
		return nil, nil, api.ErrLong
	}
	return out, nil, api.OK
}

// treesOf are all trees of up to n lines of some depths, words and marks.
func treesOf(n, deepest int, words []string, marks ...int) [][]api.Line {
	var out [][]api.Line
	var grow func(t []api.Line)
	grow = func(t []api.Line) {
		if !tree.Right(t) {
			return
		}
		out = append(out, t)
		if len(t) == n {
			return
		}
		for d := range deepest + 1 {
			for _, w := range words {
				for _, m := range marks {
					grow(append(slices.Clone(t), signed(d, w, m)))
				}
			}
		}
	}
	grow(nil)
	return out
}

// dice answers a function that tells numbers below one, the same ones at each run.
func dice(seed int) func(below int) int {
	number := uint32(seed)
	return func(below int) int {
		number = number*1664525 + 1013904223
		return int(number>>16) % below
	}
}

// grown is a tree with paths added, some of them under lines that are there, as far as there is room.
func grown(t []api.Line, next func(int) int, many, letters int) []api.Line {
	for range many {
		p := make([]string, 1+next(1+next(api.MaxDepth)))
		if len(t) > 0 && next(2) == 0 {
			above, _ := tree.Path(t, next(len(t)))
			copy(p, above)
		}
		for i, w := range p {
			if w == "" {
				p[i] = string([]byte{'a' + byte(next(letters))})
			}
		}
		t, _ = lines.Add(t, p)
	}
	return t
}

// turned is a tree with some parts taken away, some paths added and some marks turned.
func turned(t []api.Line, next func(int) int, many int) []api.Line {
	for range many {
		switch t = slices.Clone(t); {
		case len(t) == 0 || next(3) == 0:
			t = grown(t, next, 1, 5)
		case next(2) == 0:
			i := next(len(t))
			t = slices.Delete(t, i, tree.End(t, i))
		default:
			t[next(len(t))].Mark = next(4)
		}
	}
	return t
}

// bigThrees are trees of up to as many lines as there may be, each with two others that were made of it by some steps, or by adding much.
func bigThrees(n int) [][3][]api.Line {
	var out [][3][]api.Line
	for seed := range n {
		next := dice(seed)
		base := grown(nil, next, 1+next(100), 5)
		for i := range base {
			base[i].Mark = next(4)
		}
		mine, theirs := turned(base, next, next(20)), turned(base, next, next(20))
		if seed%4 == 0 {
			mine, theirs = grown(base, next, 40, 26), grown(base, next, 40, 26)
		}
		out = append(out, [3][]api.Line{base, mine, theirs})
	}
	return out
}

// each asks for one merge, of which the chapter's words, said again, tell what is to come out.
func each(t *testing.T, base, mine, theirs []api.Line) api.Errno {
	t.Helper()
	want, paths, fault := ofAgain(base, mine, theirs)
	got, bad, e := Of(base, mine, theirs)
	if e != fault || !slices.Equal(got, want) || !same(bad, paths) {
		t.Errorf("%s, %s and %s: %s, %s, %d; it should be %s, %s, %d", short(base), short(mine), short(theirs), short(got), short(bad), e, short(want), short(paths), fault)
	}
	follows(t, base, mine, theirs, got, bad, e)
	return e
}

// follows fails, unless P9.2 holds of what came out.
func follows(t *testing.T, base, mine, theirs, got []api.Line, bad [][]string, e api.Errno) {
	t.Helper()
	turn, badTurn, eTurn := Of(base, theirs, mine)
	if e != eTurn || !slices.Equal(got, turn) || !same(bad, badTurn) {
		t.Errorf("%s, %s and %s: the sides may not change places", short(base), short(mine), short(theirs))
	}
	if slices.Equal(mine, base) && (e != api.OK || !slices.Equal(got, theirs)) || slices.Equal(mine, theirs) && (e != api.OK || !slices.Equal(got, mine)) {
		t.Errorf("%s, %s and %s: %s, %d", short(base), short(mine), short(theirs), short(got), e)
	}
	m, th := states(mine), states(theirs)
	for i, p := range pathsOf(got) {
		markM, inM := m[key(p)]
		markTh, inTh := th[key(p)]
		if (!inM || markM != got[i].Mark) && (!inTh || markTh != got[i].Mark) {
			t.Errorf("%s, %s and %s: %s, of which neither has %s with that mark", short(base), short(mine), short(theirs), short(got), short(p))
		}
	}
	if !tree.Right(got) {
		t.Errorf("%s, %s and %s: %s, which is no tree", short(base), short(mine), short(theirs), short(got))
	}
}

// P9.1, P9.2: of each three of many trees, small ones and big ones, comes out what the chapter's words say, and what follows from them.
func TestEachMerge(t *testing.T) {
	many := map[api.Errno]int{}
	for _, trees := range [][][]api.Line{treesOf(3, 2, path("b", "d"), 0), treesOf(2, 1, path("b"), 0, 1, 2, 3), treesOf(4, 3, path("b"), 0, 2), treesOf(2, 1, path("", "b"), 0, 1), treesOf(3, 1, path("", "b", "c"), 0)} {
		for _, base := range trees {
			for _, mine := range trees {
				for _, theirs := range trees {
					many[each(t, base, mine, theirs)]++
				}
			}
		}
	}
	small := maps.Clone(many)
	for _, three := range bigThrees(600) {
		many[each(t, three[0], three[1], three[2])]++
	}
	if small[api.OK] < 50000 || small[api.ErrConflict] < 50000 || many[api.OK] < small[api.OK]+200 || many[api.ErrConflict] < small[api.ErrConflict]+150 || many[api.ErrLong] < 20 {
		t.Errorf("only %v, and of small trees %v", many, small)
	}
}

// spare is a copy of a tree with room behind it.
func spare(t []api.Line) []api.Line { return append(make([]api.Line, 0, len(t)+50), t...) }

// untouched: is it as it was, and all of that room, too?
func untouched(t, was []api.Line) bool {
	return slices.Equal(t, was) && !slices.ContainsFunc(t[len(t):cap(t)], func(l api.Line) bool { return l != api.Line{} })
}

// scribble writes into all that was answered, each path with another word, and tells whether two of them share any.
func scribble(got []api.Line, bad [][]string) bool {
	for i := range got {
		got[i] = line(7, "q")
	}
	for i := range bad {
		bad[i] = append(bad[i], "q")
		for k := range bad[i] {
			bad[i][k] = fmt.Sprint(i)
		}
	}
	for i, p := range bad {
		if slices.ContainsFunc(p, func(w string) bool { return w != fmt.Sprint(i) }) {
			return true
		}
	}
	return false
}

// R1, R3, R4: what Of is handed stays as it was, and what it answers is memory of its own, no list of it shared with another one.
func TestShares(t *testing.T) {
	threes := bigThrees(100)
	few := append(someWhole(), chain(17), flat(201), allMarked(flat(200), 1), allMarked(chain(16), 2), others("y", 200), deeper("x", chain(15)))
	for _, base := range few[2:] {
		for _, mine := range few {
			threes = append(threes, [3][]api.Line{base, mine, few[len(threes)%len(few)]}, [3][]api.Line{few[len(threes)%len(few)], base, mine})
		}
	}
	for _, three := range threes {
		x, y, z := spare(three[0]), spare(three[1]), spare(three[2])
		got, bad, e := Of(x, y, z)
		keptGot, keptBad := slices.Clone(got), make([][]string, len(bad))
		for i, p := range bad {
			keptBad[i] = slices.Clone(p)
		}
		if scribble(got, bad) {
			t.Errorf("%s: two paths share their words", short(three))
		}
		again, badAgain, eAgain := Of(x, y, z)
		if !slices.Equal(again, keptGot) || !same(badAgain, keptBad) || e != eAgain || !untouched(x, three[0]) || !untouched(y, three[1]) || !untouched(z, three[2]) {
			t.Errorf("%s: something was written into", short(three))
		}
		one := spare(three[0])
		got, _, e = Of(one, one, one)
		scribble(got, nil)
		if !untouched(one, three[0]) || e == api.OK && len(got) != len(one) {
			t.Errorf("%s: what comes out is what was handed in", short(three[0]))
		}
	}
}

// P1: long lists and long words end, too.
func TestEnds(t *testing.T) {
	long := make([]api.Line, 1000000)
	for i := range long {
		long[i] = line(i, "x")
	}
	wide := slices.Repeat(flat(100), 10000)
	word := list(line(0, strings.Repeat("x", 1<<24)))
	for _, x := range [][]api.Line{long, wide, word} {
		refused(t, x, chain(16), flat(200), api.ErrArg)
		refused(t, chain(16), x, flat(200), api.ErrArg)
		refused(t, x, x, x, api.ErrArg)
	}
}

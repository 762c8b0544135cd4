package diff

import (
	"fmt"
	"maps"
	"math"
	"slices"
	"strings"
	"testing"

	"ferryslip/api"
	"ferryslip/lines"
	"ferryslip/tree"
)

var (
	forty    = strings.Repeat("a", api.MaxWord)
	fortyOne = strings.Repeat("a", api.MaxWord+1)
)

// line is one without marks.
func line(depth int, w string) api.Line { return api.Line{Depth: depth, Word: w} }

// signed is one with a mark.
func signed(depth int, w string, mark int) api.Line {
	return api.Line{Depth: depth, Word: w, Mark: mark}
}

func list(t ...api.Line) []api.Line { return t }

func path(words ...string) []string { return words }

// xs is a path of n words.
func xs(n int) []string { return slices.Repeat(path("x"), n) }

// chain has n lines, each under the one ahead.
func chain(n int) []api.Line {
	var t []api.Line
	for i := range n {
		t = append(t, line(i, "x"))
	}
	return t
}

// flatWord is the Word of flat's line at i: aa, ab, ac and so on.
func flatWord(i int) string { return string([]byte{'a' + byte(i/26), 'a' + byte(i%26)}) }

// flat has n lines of Depth 0.
func flat(n int) []api.Line {
	var t []api.Line
	for i := range n {
		t = append(t, line(0, flatWord(i)))
	}
	return t
}

// deeper puts lines under one.
func deeper(w string, t []api.Line) []api.Line {
	out := list(line(0, w))
	for _, l := range t {
		l.Depth++
		out = append(out, l)
	}
	return out
}

// withMark is t with a mark at one line.
func withMark(t []api.Line, i, mark int) []api.Line {
	t = slices.Clone(t)
	t[i].Mark = mark
	return t
}

// allMarked is t with a mark at each line.
func allMarked(t []api.Line, mark int) []api.Line {
	t = slices.Clone(t)
	for i := range t {
		t[i].Mark = mark
	}
	return t
}

func changes(l ...Change) []Change { return l }

func minus(words ...string) Change { return Change{Kind: Gone, Path: words} }

func plus(mark int, words ...string) Change { return Change{Kind: Add, Path: words, Mark: mark} }

func sets(mark int, words ...string) Change { return Change{Kind: Marked, Path: words, Mark: mark} }

// wanted says what adds the lines of a tree to an empty one.
func wanted(t []api.Line) []Change {
	var l []Change
	for i := range t {
		p, _ := tree.Path(t, i)
		l = append(l, plus(t[i].Mark, p...))
	}
	return l
}

// noTrees are lists of lines that are no tree, each for one cause.
func noTrees() [][]api.Line {
	return [][]api.Line{
		{line(1, "a")}, {line(-1, "a")}, {line(math.MinInt, "a")}, {line(math.MaxInt, "a")}, {line(16, "a")}, chain(17),
		{line(0, "a"), line(2, "b")}, {line(0, "a"), line(-1, "b")}, {line(0, "a"), line(math.MaxInt, "b")},
		{line(0, fortyOne)}, {line(0, "a"), line(1, fortyOne)}, {line(0, "a"), line(0, strings.Repeat("b", 100000))},
		{signed(0, "a", 4)}, {signed(0, "a", 6)}, {signed(0, "a", -1)}, {signed(0, "a", math.MinInt)}, {line(0, "a"), signed(1, "b", 4)},
		{line(0, "b"), line(0, "a")}, {line(0, "a"), line(0, "a")}, {line(0, ""), line(0, "")},
		{line(0, "a"), line(1, "b"), line(2, "x"), line(1, "b")}, {line(0, "a"), line(1, "b"), line(0, "a")},
		flat(201), append(flat(200), line(1, "a")), make([]api.Line, 201),
	}
}

// short writes what is told, as far as anybody reads on.
func short(x any) string { return fmt.Sprintf("%.300s", fmt.Sprintf("%q", fmt.Sprint(x))) }

func same(a, b []Change) bool {
	return slices.EqualFunc(a, b, func(c, d Change) bool {
		return c.Kind == d.Kind && c.Mark == d.Mark && slices.Equal(c.Path, d.Path)
	})
}

// differ fails, unless that is the difference, and makes the second tree.
func differ(t *testing.T, a, b []api.Line, want []Change) {
	t.Helper()
	l, e := Of(a, b)
	if e != api.OK || !same(l, want) {
		t.Errorf("%s and %s: %s, %d; it should be %s", short(a), short(b), short(l), e, short(want))
	}
	applied(t, a, l, b)
}

// applied fails, unless the changes make that tree.
func applied(t *testing.T, x []api.Line, l []Change, want []api.Line) {
	t.Helper()
	if y, n, e := Apply(x, l); e != api.OK || n != len(l) || !slices.Equal(y, want) {
		t.Errorf("%s and %s: %s, %d, %d; it should be %s", short(x), short(l), short(y), n, e, short(want))
	}
}

// refused fails, unless a change has that error wherever it stands: alone, behind others, and ahead of others that have errors, too.
func refused(t *testing.T, x []api.Line, c Change, want api.Errno) {
	t.Helper()
	refusedAt(t, x, changes(c), 0, want)
	if len(x) == 0 {
		return
	}
	ahead := changes(sets(x[0].Mark, x[0].Word), sets(1, x[0].Word), sets(x[0].Mark, x[0].Word))
	refusedAt(t, x, append(ahead, c), 3, want)
	refusedAt(t, x, append(ahead, c, minus(x[0].Word)), 3, want)
	refusedAt(t, x, append(ahead, c, Change{}, plus(0, x[0].Word), minus("none")), 3, want)
}

// refusedAt fails, unless Apply tells that error, that place, and the tree as it was.
func refusedAt(t *testing.T, x []api.Line, l []Change, place int, want api.Errno) {
	t.Helper()
	if y, n, e := Apply(x, l); e != want || n != place || !slices.Equal(y, x) {
		t.Errorf("%s and %s: %s, %d, %d; it should be the same lines, %d, %d", short(x), short(l), short(y), n, e, place, want)
	}
}

// The names of the kinds, as the document counts them.
func TestKinds(t *testing.T) {
	if Gone != 1 || Add != 2 || Marked != 3 {
		t.Error(Gone, Add, Marked)
	}
}

// P8.1: the chapter's example, and one with all three kinds.
func TestOfExamples(t *testing.T) {
	differ(t, list(line(0, "a"), line(0, "b")), list(line(0, "b"), line(1, "c")), changes(minus("a"), plus(0, "b", "c")))
	a := list(line(0, "a"), line(1, "b"), line(2, "c"), signed(0, "d", 1), line(0, "e"))
	b := list(signed(0, "a", 2), line(0, "d"), line(0, "e"), signed(1, "x y", 3), line(2, "z"))
	differ(t, a, b, changes(minus("a", "b"), plus(3, "e", "x y"), plus(0, "e", "x y", "z"), sets(2, "a"), sets(0, "d")))
	differ(t, b, a, changes(minus("e", "x y"), plus(0, "a", "b"), plus(0, "a", "b", "c"), sets(0, "a"), sets(1, "d")))
}

// P8.1: two empty trees, one that is empty, and equal ones.
func TestOfEmpty(t *testing.T) {
	differ(t, nil, nil, nil)
	differ(t, nil, list(), nil)
	differ(t, list(), nil, nil)
	for _, x := range [][]api.Line{{line(0, "a")}, {line(0, "")}, {signed(0, "a", 3)}, {line(0, forty)}, {line(0, "a"), signed(1, "b", 2), line(0, "c")}, chain(16), flat(200), allMarked(flat(200), 3)} {
		differ(t, nil, x, wanted(x))
		differ(t, list(), x, wanted(x))
		differ(t, x, x, nil)
		differ(t, x, slices.Clone(x), nil)
		var tops []Change
		for _, i := range tree.Kids(x, -1) {
			tops = append(tops, minus(x[i].Word))
		}
		differ(t, x, nil, tops)
		differ(t, x, list(), tops)
	}
}

// P8.1: marks alone, each for each, at each Depth; and of several lines, in order.
func TestOfMarks(t *testing.T) {
	for from := range 4 {
		for to := range 4 {
			for i := range api.MaxDepth {
				want := changes(sets(to, xs(i+1)...))
				if from == to {
					want = nil
				}
				differ(t, withMark(chain(16), i, from), withMark(chain(16), i, to), want)
			}
		}
	}
	x := list(line(0, "a"), line(1, "b"), signed(1, "c", 1), line(0, "d"), signed(0, "e", 2))
	y := list(signed(0, "a", 3), line(1, "b"), signed(1, "c", 2), signed(0, "d", 1), line(0, "e"))
	differ(t, x, y, changes(sets(3, "a"), sets(2, "a", "c"), sets(1, "d"), sets(0, "e")))
	differ(t, y, x, changes(sets(0, "a"), sets(1, "a", "c"), sets(0, "d"), sets(2, "e")))
	var l []Change
	for i := range 200 {
		l = append(l, sets(3, flatWord(i)))
	}
	differ(t, flat(200), allMarked(flat(200), 3), l)
}

// P8.1: of a part that is gone its first line alone is told, with Mark 0, whatever marks are in it.
func TestOfGone(t *testing.T) {
	x := list(line(0, "a"), signed(1, "b", 3), signed(2, "c", 2), line(3, "d"), line(2, "e"), line(1, "f"), signed(0, "g", 1), line(1, "h"), line(0, "i"))
	differ(t, x, x[:8], changes(minus("i")))
	differ(t, x, slices.Concat(x[:1], x[5:]), changes(minus("a", "b")))
	differ(t, x, slices.Concat(x[:1], x[6:]), changes(minus("a", "b"), minus("a", "f")))
	differ(t, x, slices.Concat(x[:2], x[4:]), changes(minus("a", "b", "c")))
	differ(t, x, slices.Concat(x[:3], x[5:]), changes(minus("a", "b", "c", "d"), minus("a", "b", "e")))
	differ(t, x, slices.Concat(x[:2], x[6:8]), changes(minus("a", "b", "c"), minus("a", "b", "e"), minus("a", "f"), minus("i")))
	differ(t, x, x[6:], changes(minus("a")))
	differ(t, x, x[8:], changes(minus("a"), minus("g")))
	differ(t, x, slices.Concat(x[:6], x[8:]), changes(minus("g")))
	differ(t, x, slices.Concat(x[:7], x[8:]), changes(minus("g", "h")))
	for n := range api.MaxDepth {
		differ(t, chain(16), chain(n), changes(minus(xs(n+1)...)))
		differ(t, allMarked(chain(16), 3), allMarked(chain(n), 3), changes(minus(xs(n+1)...)))
	}
	differ(t, deeper("x", flat(199)), nil, changes(minus("x")))
}

// P8.1: of what is new each line is told, with its Mark.
func TestOfNew(t *testing.T) {
	x := list(line(0, "b"), line(1, "d"))
	y := list(signed(0, "a", 1), signed(1, "b", 2), line(2, "c"), line(0, "b"), signed(1, "c", 3), line(2, "d"), line(1, "d"), line(2, "d"), line(1, "e"), signed(0, "c", 2))
	differ(t, x, y, changes(plus(1, "a"), plus(2, "a", "b"), plus(0, "a", "b", "c"), plus(3, "b", "c"), plus(0, "b", "c", "d"), plus(0, "b", "d", "d"), plus(0, "b", "e"), plus(2, "c")))
	for n := range api.MaxDepth {
		differ(t, chain(n), chain(16), wanted(chain(16))[n:])
		differ(t, chain(n), slices.Concat(chain(n), allMarked(chain(16), 2)[n:]), wanted(allMarked(chain(16), 2))[n:])
	}
	differ(t, list(line(0, "x")), deeper("x", flat(199)), wanted(deeper("x", flat(199)))[1:])
	differ(t, flat(199), append(flat(199), line(1, "y")), changes(plus(0, flatWord(198), "y")))
}

// P8.1: a line that comes back under another one, or at another Depth, is gone, and new.
func TestOfMoved(t *testing.T) {
	b := list(line(0, "b"), signed(1, "c", 1), line(1, "d"))
	differ(t, append(deeper("a", b), line(0, "z")), append(list(line(0, "a")), deeper("z", b)...), changes(minus("a", "b"), plus(0, "z", "b"), plus(1, "z", "b", "c"), plus(0, "z", "b", "d")))
	differ(t, deeper("a", b), b, changes(minus("a"), plus(0, "b"), plus(1, "b", "c"), plus(0, "b", "d")))
	differ(t, b, deeper("a", b), changes(minus("b"), plus(0, "a"), plus(0, "a", "b"), plus(1, "a", "b", "c"), plus(0, "a", "b", "d")))
	differ(t, list(line(0, "a"), line(1, "b"), line(1, "c")), list(line(0, "a"), line(1, "b"), line(2, "c")), changes(minus("a", "c"), plus(0, "a", "b", "c")))
	differ(t, list(line(0, "a"), line(1, "b"), line(2, "c")), list(line(0, "a"), line(1, "b"), line(1, "c")), changes(minus("a", "b", "c"), plus(0, "a", "c")))
	differ(t, list(line(0, "a"), line(1, "a")), list(line(0, "a"), line(0, "b"), line(1, "a")), changes(minus("a", "a"), plus(0, "b"), plus(0, "b", "a")))
	differ(t, deeper("x", flat(199)), deeper("y", flat(199)), append(changes(minus("x")), wanted(deeper("y", flat(199)))...))
	differ(t, flat(200), flat(201)[1:], changes(minus("aa"), plus(0, flatWord(200))))
	differ(t, chain(16), append(chain(15), signed(15, "y", 3)), changes(minus(xs(16)...), plus(3, append(xs(15), "y")...)))
	differ(t, chain(16), deeper("w", chain(15)), append(changes(minus("x")), wanted(deeper("w", chain(15)))...))
}

// P8.1: what is gone, what is new, and what has another Mark, each in order, though they stand among one another.
func TestOfAll(t *testing.T) {
	x := list(line(0, "a"), line(0, "b"), line(1, "c"), line(1, "e"), line(0, "f"), line(0, "h"))
	y := list(signed(0, "0", 1), signed(0, "b", 2), signed(1, "a", 1), signed(1, "e", 3), line(0, "g"), signed(0, "h", 1), line(1, "i"))
	differ(t, x, y, changes(minus("a"), minus("b", "c"), minus("f"), plus(1, "0"), plus(1, "b", "a"), plus(0, "g"), plus(0, "h", "i"), sets(2, "b"), sets(3, "b", "e"), sets(1, "h")))
	differ(t, y, x, changes(minus("0"), minus("b", "a"), minus("g"), minus("h", "i"), plus(0, "a"), plus(0, "b", "c"), plus(0, "f"), sets(0, "b"), sets(0, "b", "e"), sets(0, "h")))
}

// P8.1, R5: words of all kinds, and they are compared byte by byte.
func TestOfWords(t *testing.T) {
	words := path("", "\x00", "\n", " ", "\"", "-", "A", "\\", "a", "a ", "a b", "aa", "inactive:", "protect:", "{", "é", "\xff")
	var all []api.Line
	for _, w := range words {
		all = append(all, line(0, w), line(1, ""), line(1, w+"x"))
	}
	differ(t, nil, all, wanted(all))
	for i, w := range words {
		less := slices.Concat(all[:3*i], all[3*i+3:])
		differ(t, all, less, changes(minus(w)))
		differ(t, less, all, changes(plus(0, w), plus(0, w, ""), plus(0, w, w+"x")))
		differ(t, all, slices.Concat(all[:3*i+1], all[3*i+2:]), changes(minus(w, "")))
		differ(t, all, withMark(all, 3*i+2, 1), changes(sets(1, w, w+"x")))
	}
	differ(t, list(line(0, forty)), list(line(0, forty[1:]), line(1, forty)), changes(minus(forty), plus(0, forty[1:]), plus(0, forty[1:], forty)))
	differ(t, list(line(0, "")), list(line(0, ""), line(1, "")), changes(plus(0, "", "")))
	differ(t, list(line(0, "a"), line(1, "b")), list(line(0, "a b")), changes(minus("a"), plus(0, "a b")))
}

// P8.1, R2: either is no tree, or both.
func TestOfWrong(t *testing.T) {
	wrong := func(a, b []api.Line) {
		t.Helper()
		if l, e := Of(a, b); len(l) != 0 || e != api.ErrArg {
			t.Errorf("%s and %s: %s, %d", short(a), short(b), short(l), e)
		}
	}
	for _, x := range noTrees() {
		for _, y := range [][]api.Line{nil, {}, {line(0, "a")}, chain(16), flat(200)} {
			wrong(x, y)
			wrong(y, x)
		}
		wrong(x, x)
		wrong(x, noTrees()[0])
	}
}

// P8.2: no changes, and lines that are no tree, whatever the changes are.
func TestApplyNothing(t *testing.T) {
	for _, x := range [][]api.Line{nil, {}, {line(0, "a")}, chain(16), allMarked(flat(200), 3)} {
		applied(t, x, nil, x)
		applied(t, x, changes(), x)
	}
	for _, x := range noTrees() {
		for _, l := range [][]Change{nil, {}, {minus(x[0].Word)}, {plus(0, "z")}, {sets(0, x[0].Word)}, {minus("none")}, {plus(0, "z"), plus(0, "z")}, {{}, {}}, {plus(0, xs(17)...)}} {
			if y, n, e := Apply(x, l); len(y) != 0 || n != 0 || e != api.ErrArg {
				t.Errorf("%s and %s: %s, %d, %d", short(x), short(l), short(y), n, e)
			}
		}
	}
}

// P8.2: Gone, of a part of one line and of many; its Mark makes no difference.
func TestApplyGone(t *testing.T) {
	x := list(line(0, "a"), signed(1, "b", 3), signed(2, "c", 2), line(1, "d"), signed(0, "e", 1), line(0, "f"))
	for mark := range 4 {
		gone := func(words ...string) []Change { return changes(Change{Gone, words, mark}) }
		applied(t, x, gone("a"), x[4:])
		applied(t, x, gone("a", "b"), slices.Concat(x[:1], x[3:]))
		applied(t, x, gone("a", "b", "c"), slices.Concat(x[:2], x[3:]))
		applied(t, x, gone("a", "d"), slices.Concat(x[:3], x[4:]))
		applied(t, x, gone("e"), slices.Concat(x[:4], x[5:]))
		applied(t, x, gone("f"), x[:5])
		applied(t, list(line(0, "")), gone(""), nil)
		applied(t, deeper("x", flat(199)), gone("x"), nil)
		for n := range api.MaxDepth {
			applied(t, chain(16), gone(xs(n+1)...), chain(n))
		}
	}
}

// P8.2: Add, with each Mark, at each place among its siblings, and at each Depth.
func TestApplyAdd(t *testing.T) {
	x := list(line(0, "b"), signed(1, "b", 1), line(2, "c"), line(1, "d"), line(0, "d"))
	for mark := range 4 {
		fits := func(at, depth int, words ...string) {
			t.Helper()
			applied(t, x, changes(plus(mark, words...)), slices.Insert(slices.Clone(x), at, signed(depth, words[depth], mark)))
		}
		fits(0, 0, "")
		fits(0, 0, "a")
		fits(4, 0, "bb")
		fits(4, 0, "c")
		fits(0, 0, forty)
		fits(5, 0, "e")
		fits(1, 1, "b", "a")
		fits(3, 1, "b", "c")
		fits(4, 1, "b", "e")
		fits(2, 2, "b", "b", "b")
		fits(3, 2, "b", "b", "d")
		fits(3, 3, "b", "b", "c", "")
		fits(4, 2, "b", "d", "c")
		fits(5, 1, "d", "d")
		applied(t, nil, changes(plus(mark, "a")), list(signed(0, "a", mark)))
		applied(t, nil, changes(plus(mark, "")), list(signed(0, "", mark)))
		for n := range api.MaxDepth {
			applied(t, chain(n), changes(plus(mark, xs(n+1)...)), append(chain(n), signed(n, "x", mark)))
		}
		applied(t, flat(199), changes(plus(mark, flatWord(199))), append(flat(199), signed(0, flatWord(199), mark)))
		applied(t, flat(199), changes(plus(mark, "aa", "b")), slices.Insert(flat(199), 1, signed(1, "b", mark)))
	}
}

// P8.2: Marked, from each Mark to each; and no other line is another one.
func TestApplyMarked(t *testing.T) {
	paths := [][]string{{"a"}, {"a", "b"}, {"a", "b", "c"}, {"a", "d"}, {"e"}}
	for from := range 4 {
		for to := range 4 {
			x := list(line(0, "a"), line(1, "b"), line(2, "c"), line(1, "d"), line(0, "e"))
			for i, p := range paths {
				applied(t, withMark(x, i, from), changes(sets(to, p...)), withMark(x, i, to))
				applied(t, allMarked(x, from), changes(sets(to, p...)), withMark(allMarked(x, from), i, to))
			}
		}
	}
	applied(t, chain(16), changes(sets(3, xs(16)...)), withMark(chain(16), 15, 3))
	applied(t, flat(200), changes(sets(1, flatWord(199))), withMark(flat(200), 199, 1))
}

// P8.2: each change meets what those ahead have made; the number is that of all changes.
func TestApplyMany(t *testing.T) {
	applied(t, nil, changes(plus(0, "b"), plus(1, "b", "c"), plus(0, "a"), sets(2, "b"), minus("a"), plus(3, "b", "c", "d"), sets(0, "b", "c")), list(signed(0, "b", 2), line(1, "c"), signed(2, "d", 3)))
	applied(t, list(signed(0, "a", 3), line(1, "b")), changes(minus("a"), plus(0, "a")), list(line(0, "a")))
	applied(t, nil, changes(plus(0, "a"), minus("a"), plus(0, "a"), minus("a")), nil)
	applied(t, flat(200), changes(minus("aa"), plus(1, "aa"), sets(1, "aa"), sets(0, "aa")), flat(200))
	applied(t, nil, wanted(chain(16)), chain(16))
	applied(t, nil, wanted(flat(200)), flat(200))
	backward := wanted(allMarked(flat(200), 1))
	slices.Reverse(backward)
	applied(t, nil, backward, allMarked(flat(200), 1))
	refusedAt(t, nil, changes(plus(0, "b"), plus(1, "b", "c"), minus("b"), sets(2, "b", "c")), 3, api.ErrNone)
	refusedAt(t, list(line(0, "a")), changes(minus("a"), minus("a")), 1, api.ErrNone)
	refusedAt(t, list(line(0, "a")), changes(minus("a"), plus(0, "a", "b"), plus(0, "a")), 1, api.ErrNone)
	refusedAt(t, nil, changes(plus(0, "a"), plus(0, "a")), 1, api.ErrThere)
	refusedAt(t, nil, append(wanted(flat(200)), plus(0, "a"), minus("none")), 200, api.ErrLong)
}

// P8.2: Kinds that are none, and Marks below 0 and above 3, of each Kind.
func TestApplyWrongNumbers(t *testing.T) {
	x := list(line(0, "a"), line(1, "b"), line(0, "c"))
	for _, kind := range []int{0, 4, 5, 7, -1, -2, 256, 257, 1 << 32, 1<<32 + 1, math.MaxInt, math.MinInt} {
		for _, p := range [][]string{{"a"}, {"a", "b"}, {"z"}, {"a", "z"}, {"z", "z"}, {fortyOne}, xs(17), nil} {
			for _, mark := range []int{0, 1, 3, 4, -1} {
				refused(t, x, Change{kind, p, mark}, api.ErrArg)
				refused(t, nil, Change{kind, p, mark}, api.ErrArg)
			}
		}
	}
	for _, mark := range []int{-1, -2, 4, 5, 6, 7, 8, 256, -4, 1 << 32, 1<<32 + 1, math.MaxInt, math.MinInt} {
		for _, kind := range []int{Gone, Add, Marked} {
			for _, p := range [][]string{{"a"}, {"a", "b"}, {"z"}, {"a", "z"}, {"z", "z"}, {fortyOne}, xs(17), nil} {
				refused(t, x, Change{kind, p, mark}, api.ErrArg)
				refused(t, flat(200), Change{kind, p, mark}, api.ErrArg)
			}
		}
	}
}

// P8.2: an empty path, of each Kind.
func TestApplyEmptyPath(t *testing.T) {
	for _, x := range [][]api.Line{nil, {line(0, "")}, {line(0, "a"), line(1, "")}, chain(16), flat(200)} {
		for _, kind := range []int{Gone, Add, Marked} {
			for mark := range 4 {
				refused(t, x, Change{kind, nil, mark}, api.ErrArg)
				refused(t, x, Change{kind, path(), mark}, api.ErrArg)
			}
		}
	}
}

// P8.2: the errors of an Add, each ahead of all that are named behind it.
func TestApplyAddErrors(t *testing.T) {
	x := list(line(0, "a"), line(1, "b"), line(0, "c"))
	for _, y := range [][]api.Line{nil, x, chain(16), flat(200)} {
		for _, p := range [][]string{{fortyOne}, {"a", fortyOne}, {fortyOne, "a"}, {"z", fortyOne}, {"z", fortyOne, "z"}, append(xs(16), fortyOne), append(path(fortyOne), xs(100)...), {strings.Repeat("\xff", 41)}} {
			refused(t, y, plus(0, p...), api.ErrArg)
		}
		for _, p := range [][]string{xs(17), xs(1000), append(path("aa"), xs(16)...), append(path("a", "b"), xs(15)...), append(xs(16), forty), append(xs(16), "")} {
			refused(t, y, plus(3, p...), api.ErrDeep)
		}
		for _, p := range [][]string{{"z", "a"}, {"z", "a", "b"}, {"a", "z", "b"}, {"aa", "z", "b"}, {"", ""}, {"C", "z"}, append(path("z"), xs(15)...), {forty, forty}} {
			refused(t, y, plus(1, p...), api.ErrNone)
		}
	}
	for _, p := range [][]string{{"a"}, {"a", "b"}, {"c"}} {
		for mark := range 4 {
			refused(t, x, plus(mark, p...), api.ErrThere)
		}
	}
	refused(t, x, plus(0, "b", "b"), api.ErrNone)
	refused(t, x, plus(0, "a", "a", "b"), api.ErrNone)
	refused(t, list(line(0, ""), line(1, "")), plus(0, "", ""), api.ErrThere)
	for n := 1; n <= api.MaxDepth; n++ {
		refused(t, chain(16), plus(0, xs(n)...), api.ErrThere)
		if n+2 <= api.MaxDepth {
			refused(t, chain(n), plus(0, xs(n+2)...), api.ErrNone)
		}
	}
}

// P8.2: an Add where there are as many lines as there may be; ErrNone and ErrThere go ahead.
func TestApplyLong(t *testing.T) {
	for _, p := range [][]string{{""}, {"a"}, {"z"}, {"aa", "a"}, {flatWord(199), "z"}, {forty}} {
		refused(t, flat(200), plus(0, p...), api.ErrLong)
		refused(t, flat(200), plus(3, p...), api.ErrLong)
	}
	for _, p := range [][]string{{"z", "a"}, {"aa", "a", "a"}, append(path("aa"), xs(15)...)} {
		refused(t, flat(200), plus(0, p...), api.ErrNone)
		refused(t, flat(199), plus(0, p...), api.ErrNone)
	}
	for i := range 200 {
		refused(t, flat(200), plus(0, flatWord(i)), api.ErrThere)
	}
	full := append(flat(184), chain(16)...)
	for n := range api.MaxDepth {
		refused(t, full, plus(0, append(xs(n), "y")...), api.ErrLong)
		refused(t, full, plus(0, xs(n+1)...), api.ErrThere)
	}
	refused(t, full, plus(0, xs(17)...), api.ErrDeep)
	refused(t, deeper("x", flat(199)), plus(0, "x", "a"), api.ErrLong)
}

// P8.2: a Gone, or a Marked, whose line is not there, also of a path that no line may have.
func TestApplyNone(t *testing.T) {
	x := list(line(0, "a"), line(1, "b"), line(0, "c"))
	for _, c := range []func(words ...string) Change{minus, func(words ...string) Change { return sets(0, words...) }, func(words ...string) Change { return sets(3, words...) }} {
		for _, y := range [][]api.Line{nil, x, chain(15), flat(200)} {
			for _, p := range [][]string{{"z"}, {""}, {"A"}, {"b"}, {"a", "a"}, {"a", "b", "c"}, {"c", "b"}, {"a", ""}, {"aa", "aa"}, {fortyOne}, {"a", fortyOne}, xs(16), xs(17), xs(1000), append(xs(14), "y"), {strings.Repeat("a", 100000)}} {
				refused(t, y, c(p...), api.ErrNone)
			}
		}
	}
}

// P8.2: of several errors of one change the one that is named first; of several changes the first one that has any.
func TestApplyErrorsInOrder(t *testing.T) {
	x := list(line(0, "a"), line(1, "b"), line(0, "c"))
	refused(t, x, Change{0, append(xs(16), fortyOne), 0}, api.ErrArg)
	refused(t, x, plus(4, xs(17)...), api.ErrArg)
	refused(t, x, plus(-1, "a"), api.ErrArg)
	refused(t, x, plus(4, "z", "z"), api.ErrArg)
	refused(t, x, sets(4, "z"), api.ErrArg)
	refused(t, x, Change{Gone, path("z"), -1}, api.ErrArg)
	refused(t, flat(200), plus(0, append(xs(16), fortyOne)...), api.ErrArg)
	refused(t, flat(200), plus(0, "z", fortyOne), api.ErrArg)
	refused(t, flat(200), plus(0, xs(17)...), api.ErrDeep)
	bad := map[api.Errno]Change{api.ErrArg: plus(0, fortyOne), api.ErrDeep: plus(0, xs(17)...), api.ErrNone: minus("none"), api.ErrThere: plus(0, "aa"), api.ErrLong: plus(0, "a")}
	for first, c := range bad {
		for _, d := range bad {
			refusedAt(t, flat(200), changes(c, d), 0, first)
			refusedAt(t, flat(200), changes(sets(2, "aa"), minus("ab"), plus(0, "z"), c, d, plus(0, "ab"), d), 3, first)
		}
	}
}

// P8.3: rows of all kinds, with and without a mark.
func TestText(t *testing.T) {
	for _, c := range []struct {
		l    []Change
		want string
	}{
		{nil, ""}, {changes(), ""},
		{changes(minus("a"), plus(0, "b", "c")), "- a\n+ b c\n"},
		{changes(plus(1, "a"), plus(2, "a", "b"), plus(3, "a", "b", "c")), "+ a (1)\n+ a b (2)\n+ a b c (3)\n"},
		{changes(sets(0, "a"), sets(1, "a"), sets(2, "a"), sets(3, "a", "b")), "! a (0)\n! a (1)\n! a (2)\n! a b (3)\n"},
		{changes(minus("a"), minus("a"), minus("a", "b")), "- a\n- a\n- a b\n"},
		{changes(sets(2, "z"), plus(0, "y"), minus("x"), Change{9, path("w"), 0}, plus(1, "v")), "! z (2)\n+ y\n- x\n? w (0)\n+ v (1)\n"},
		{changes(plus(0, xs(16)...)), "+" + strings.Repeat(" x", 16) + "\n"},
		{changes(minus(xs(17)...)), "-" + strings.Repeat(" x", 17) + "\n"},
		{changes(sets(3, xs(1000)...)), "!" + strings.Repeat(" x", 1000) + " (3)\n"},
	} {
		if s := Text(c.l); s != c.want {
			t.Errorf("%s: %.300q; it should be %.300q", short(c.l), s, c.want)
		}
	}
}

// P8.3: Kinds and Marks that are none.
func TestTextNumbers(t *testing.T) {
	for _, c := range []struct {
		mark   int
		digits string
	}{{0, "0"}, {1, "1"}, {3, "3"}, {4, "4"}, {12, "12"}, {-1, "-1"}, {-120, "-120"}, {math.MaxInt32, "2147483647"}, {1 << 32, "4294967296"}, {math.MinInt, "-9223372036854775808"}, {math.MaxInt, "9223372036854775807"}} {
		for _, kind := range []int{0, 4, 7, -1, -2, -3, 257, 258, 1<<32 + 1, 1<<32 + 2, math.MaxInt, math.MinInt} {
			if s := Text(changes(Change{kind, path("a", "b"), c.mark})); s != "? a b ("+c.digits+")\n" {
				t.Errorf("%d, %d: %q", kind, c.mark, s)
			}
		}
		if s := Text(changes(sets(c.mark, "a"))); s != "! a ("+c.digits+")\n" {
			t.Errorf("Marked, %d: %q", c.mark, s)
		}
		if s := Text(changes(Change{Gone, path("a"), c.mark})); s != "- a\n" {
			t.Errorf("Gone, %d: %q", c.mark, s)
		}
		if s := Text(changes(plus(c.mark, "a"))); c.mark != 0 && s != "+ a ("+c.digits+")\n" {
			t.Errorf("Add, %d: %q", c.mark, s)
		}
	}
}

// P8.3: words that are quoted, words that are too long, and paths without any.
func TestTextWords(t *testing.T) {
	for _, c := range []struct {
		words []string
		want  string
	}{
		{nil, ""}, {path(), ""}, {path(""), ` ""`}, {path("", ""), ` "" ""`}, {path("a b"), ` "a b"`}, {path("a", "b"), " a b"},
		{path("a\"b\\c"), ` "a\"b\\c"`}, {path("\n", "\x00\xff"), ` "\x0a" "\x00\xff"`}, {path("inactive:", "protect:", "/*"), ` "inactive:" "protect:" "/*"`},
		{path("{", "}", ";", "#"), ` "{" "}" ";" "#"`}, {path("(1)", "-", "+"), ` "(1)" - "+"`}, {path("10.0.0.1/8", "a-b_c:*"), " 10.0.0.1/8 a-b_c:*"},
		{path(forty), " " + forty}, {path(strings.Repeat(" ", 40)), ` "` + strings.Repeat(" ", 40) + `"`}, {path(strings.Repeat("\xff", 40)), ` "` + strings.Repeat(`\xff`, 40) + `"`},
		{path(fortyOne), " "}, {path(strings.Repeat(" ", 41)), " "}, {path("a", fortyOne, "b"), " a  b"}, {path(fortyOne, fortyOne), "  "}, {path(fortyOne, "a"), "  a"}, {path("a", strings.Repeat("\xff", 100000)), " a "},
	} {
		want := "-" + c.want + "\n+" + c.want + "\n+" + c.want + " (3)\n!" + c.want + " (0)\n?" + c.want + " (0)\n"
		if s := Text(changes(minus(c.words...), plus(0, c.words...), plus(3, c.words...), sets(0, c.words...), Change{0, c.words, 0})); s != want {
			t.Errorf("%.100q: %q; it should be %q", c.words, s, want)
		}
	}
}

// key makes one text of a path; no word of the trees that are made for it has a |.
func key(p []string) string { return strings.Join(p, "|") + "|" }

// aboveKey is that of the path without its last word; "" if it has but one.
func aboveKey(p []string) string {
	if len(p) == 1 {
		return ""
	}
	return key(p[:len(p)-1])
}

// marksOf tells the Mark of each path; that of "", under which all of Depth 0 stand, is 0.
func marksOf(t []api.Line) map[string]int {
	marks := map[string]int{"": 0}
	for i, l := range t {
		p, _ := tree.Path(t, i)
		marks[key(p)] = l.Mark
	}
	return marks
}

// ofAgain says the chapter's words of the difference again.
func ofAgain(a, b []api.Line) []Change {
	inA, inB := marksOf(a), marksOf(b)
	var removed, fresh, other []Change
	for i := range a {
		p, _ := tree.Path(a, i)
		_, there := inB[key(p)]
		if _, above := inB[aboveKey(p)]; above && !there {
			removed = append(removed, minus(p...))
		}
	}
	for i, l := range b {
		p, _ := tree.Path(b, i)
		if mark, there := inA[key(p)]; !there {
			fresh = append(fresh, plus(l.Mark, p...))
		} else if mark != l.Mark {
			other = append(other, sets(l.Mark, p...))
		}
	}
	return slices.Concat(removed, fresh, other)
}

// applyAgain says the chapter's words of one change again, of paths with their marks; its path is one that fits.
func applyAgain(before map[string]int, c Change) (map[string]int, api.Errno) {
	marks := maps.Clone(before)
	_, there := marks[key(c.Path)]
	_, above := marks[aboveKey(c.Path)]
	switch {
	case c.Kind == Add && !above, c.Kind != Add && !there:
		return nil, api.ErrNone
	case c.Kind == Add && there:
		return nil, api.ErrThere
	case c.Kind == Gone:
		maps.DeleteFunc(marks, func(k string, _ int) bool { return strings.HasPrefix(k, key(c.Path)) })
	default:
		marks[key(c.Path)] = c.Mark
	}
	return marks, api.OK
}

// someTrees are many trees: deep ones, wide ones, and of all marks.
func someTrees() [][]api.Line {
	var out [][]api.Line
	for _, c := range []struct {
		n, deepest int
		words      []string
		marks      []int
	}{{4, 3, []string{"b", "d"}, []int{0}}, {3, 2, []string{"b", "d"}, []int{0, 2}}, {3, 1, []string{"", "b", "d"}, []int{0}}, {2, 1, []string{"b"}, []int{0, 1, 2, 3}}} {
		var grow func(t []api.Line)
		grow = func(t []api.Line) {
			if !tree.Right(t) {
				return
			}
			out = append(out, t)
			if len(t) == c.n {
				return
			}
			for d := range c.deepest + 1 {
				for _, w := range c.words {
					for _, m := range c.marks {
						grow(append(slices.Clone(t), api.Line{Depth: d, Word: w, Mark: m}))
					}
				}
			}
		}
		grow(nil)
	}
	return out
}

// bigTrees are trees of up to as many lines as there may be, each made of a number.
func bigTrees(n int) [][]api.Line {
	var out [][]api.Line
	for seed := range n {
		number := uint32(seed)
		next := func(below int) int {
			number = number*1664525 + 1013904223
			return int(number>>16) % below
		}
		var t []api.Line
		for size := next(api.MaxLines + 50); len(t) < min(size, api.MaxLines); {
			p := make([]string, 1+next(1+next(api.MaxDepth)))
			for i := range p {
				p[i] = string([]byte{'a' + byte(next(5))})
			}
			t, _ = lines.Add(t, p)
		}
		for i := range t {
			t[i].Mark = next(4)
		}
		out = append(out, t)
	}
	return out
}

// P8.1, P8.4: between each two of many trees there is the difference that the chapter's words say; it makes the second one, and is none just between equal ones.
func TestEachDifference(t *testing.T) {
	equal, pairs := 0, 0
	each := func(trees [][]api.Line) {
		for _, a := range trees {
			for _, b := range trees {
				pairs++
				l, e := Of(a, b)
				if e != api.OK || !same(l, ofAgain(a, b)) {
					t.Errorf("%s and %s: %s, %d; it should be %s", short(a), short(b), short(l), e, short(ofAgain(a, b)))
				}
				if slices.Equal(a, b) {
					equal++
				}
				if slices.Equal(a, b) != (len(l) == 0) {
					t.Errorf("%s and %s: %s", short(a), short(b), short(l))
				}
				applied(t, a, l, b)
			}
		}
	}
	each(someTrees())
	each(bigTrees(30))
	if pairs < 70000 || equal > pairs/50 {
		t.Errorf("only %d pairs, of them equal ones %d", pairs, equal)
	}
}

// someChanges are all changes of some paths and marks.
func someChanges() []Change {
	var out []Change
	for _, kind := range []int{Gone, Add, Marked} {
		for _, p := range [][]string{{"b"}, {"d"}, {"b", "b"}, {"b", "d"}, {"d", "d"}, {"b", "d", "b"}} {
			for _, mark := range []int{0, 3} {
				out = append(out, Change{kind, p, mark})
			}
		}
	}
	return out
}

// P8.2: two changes, one behind the other, on many trees, make what the chapter's words say; the first one that cannot be made is told.
func TestEachApply(t *testing.T) {
	made, faults := 0, 0
	for _, x := range someTrees() {
		for _, c := range someChanges() {
			first, e := applyAgain(marksOf(x), c)
			if e != api.OK {
				faults++
				refusedAt(t, x, changes(c), 0, e)
				continue
			}
			for _, d := range someChanges() {
				want, e := applyAgain(first, d)
				if e != api.OK {
					faults++
					refusedAt(t, x, changes(c, d), 1, e)
					continue
				}
				made++
				y, n, e := Apply(x, changes(c, d))
				if e != api.OK || n != 2 || !tree.Right(y) || !maps.Equal(marksOf(y), want) {
					t.Errorf("%s, %s and %s: %s, %d, %d; it should be %v", short(x), short(c), short(d), short(y), n, e, want)
				}
			}
		}
	}
	if made < 20000 || faults < 20000 {
		t.Errorf("only %d were made, and %d not", made, faults)
	}
}

// spare is a copy of a list with room behind it.
func spare[T any](l []T) []T { return append(make([]T, 0, len(l)+50), l...) }

// untouched: is all of that room as it was?
func untouched(t []api.Line) bool {
	return !slices.ContainsFunc(t[len(t):cap(t)], func(l api.Line) bool { return l != api.Line{} })
}

// R1, R3, R4: what Of is handed stays as it was, and what it answers is memory of its own, no list of it shared with another one.
func TestOfShares(t *testing.T) {
	trees := append(bigTrees(12), nil, chain(16), chain(17), flat(200), allMarked(flat(200), 1), flat(201))
	for _, a := range trees {
		for _, b := range trees {
			x, y := spare(a), spare(b)
			first, e := Of(x, y)
			var kept []Change
			for _, c := range first {
				kept = append(kept, Change{c.Kind, slices.Clone(c.Path), c.Mark})
			}
			for i := range first {
				first[i].Path = append(first[i].Path, "q")
				for k := range first[i].Path {
					first[i].Path[k] = "q" + flatWord(i)
				}
			}
			for i, c := range first {
				if slices.ContainsFunc(c.Path, func(w string) bool { return w != "q"+flatWord(i) }) {
					t.Errorf("%s and %s: two paths share their words", short(a), short(b))
				}
			}
			again, e2 := Of(x, y)
			if !same(again, kept) || e != e2 || !slices.Equal(x, a) || !slices.Equal(y, b) || !untouched(x) || !untouched(y) {
				t.Errorf("%s and %s: something was written into", short(a), short(b))
			}
		}
	}
}

// R1, R3, R4: the same of Apply and Text, with an error, too.
func TestApplyShares(t *testing.T) {
	lists := [][]Change{nil, {minus("x")}, {minus("aa")}, {sets(3, "x")}, {sets(3, "aa")}, {plus(1, "x", "b")}, {plus(0, "b"), minus("b")}, {sets(1, "x"), minus("none")}, {minus("x"), minus("x")},
		{sets(1, "aa"), minus("ab"), Change{}}, {plus(0, "a"), plus(0, "a")}, {plus(3, xs(16)...)}, {plus(0, xs(17)...)}, {minus(xs(16)...), plus(2, xs(16)...)}}
	for _, was := range append(bigTrees(12), nil, chain(16), chain(15), chain(17), flat(199), flat(200), flat(201), deeper("x", flat(199))) {
		for _, l := range lists {
			x, handed := spare(was), make([]Change, 0, 50)
			for _, c := range l {
				handed = append(handed, Change{c.Kind, spare(c.Path), c.Mark})
			}
			first, n, e := Apply(x, handed)
			text := Text(handed)
			kept := slices.Clone(first)
			for i := range first {
				first[i] = line(7, "q")
			}
			again, n2, e2 := Apply(x, handed)
			if !slices.Equal(x, was) || !untouched(x) || !same(handed, l) || n != n2 || e != e2 || !slices.Equal(again, kept) || text != Text(l) {
				t.Errorf("%s and %s: asked twice %d, %d and %d, %d", short(was), short(l), n, e, n2, e2)
			}
			for _, c := range handed {
				if slices.ContainsFunc(c.Path[len(c.Path):cap(c.Path)], func(w string) bool { return w != "" }) {
					t.Errorf("%s and %s: a path was written into", short(was), short(l))
				}
			}
		}
	}
}

// P1: long lists, long paths and long words end, too.
func TestEnds(t *testing.T) {
	many := slices.Repeat(changes(plus(0, "b"), sets(1, "b"), minus("b")), 30000)
	applied(t, flat(199), many, flat(199))
	if s := Text(many); s != strings.Repeat("+ b\n! b (1)\n- b\n", 30000) {
		t.Errorf("%d bytes", len(s))
	}
	long := slices.Repeat(path("x"), 1000000)
	refusedAt(t, chain(16), changes(minus(long...)), 0, api.ErrNone)
	refusedAt(t, chain(16), changes(sets(0, long...)), 0, api.ErrNone)
	refusedAt(t, chain(16), changes(plus(0, long...)), 0, api.ErrDeep)
	word := strings.Repeat("x", 1<<24)
	refusedAt(t, chain(1), changes(plus(0, "x", word)), 0, api.ErrArg)
	refusedAt(t, chain(1), changes(minus("x", word)), 0, api.ErrNone)
	if s := Text(changes(plus(0, "x", word), minus(long...))); s != "+ x \n-"+strings.Repeat(" x", 1000000)+"\n" {
		t.Errorf("%d bytes", len(s))
	}
}

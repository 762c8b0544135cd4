package groups

import (
	"fmt"
	"maps"
	"math"
	"slices"
	"strings"
	"testing"

	"ferryslip/api"
	"ferryslip/lines"
	"ferryslip/parse"
	"ferryslip/tree"
)

var (
	forty    = strings.Repeat("a", api.MaxWord)
	fortyOne = strings.Repeat("a", api.MaxWord+1)
)

// line is one without marks.
func line(depth int, w string) api.Line { return api.Line{Depth: depth, Word: w} }

// signed is one with a mark.
func signed(depth int, w string, mark int) api.Line {
	return api.Line{Depth: depth, Word: w, Mark: mark}
}

func list(t ...api.Line) []api.Line { return t }

func path(words ...string) []string { return words }

// chain has n lines, each under the one ahead.
func chain(n int) []api.Line {
	var t []api.Line
	for i := range n {
		t = append(t, line(i, "x"))
	}
	return t
}

// flatWord is the Word of flat's line at i: aa, ab, ac and so on.
func flatWord(i int) string { return string([]byte{'a' + byte(i/26), 'a' + byte(i%26)}) }

// flat has n lines of Depth 0.
func flat(n int) []api.Line {
	var t []api.Line
	for i := range n {
		t = append(t, line(0, flatWord(i)))
	}
	return t
}

// deeper puts lines under one.
func deeper(w string, t []api.Line) []api.Line {
	out := list(line(0, w))
	for _, l := range t {
		l.Depth++
		out = append(out, l)
	}
	return out
}

// under puts lines under several, the first word first.
func under(t []api.Line, words ...string) []api.Line {
	for _, w := range slices.Backward(words) {
		t = deeper(w, t)
	}
	return t
}

// withMark is t with a mark at one line.
func withMark(t []api.Line, i, mark int) []api.Line {
	t = slices.Clone(t)
	t[i].Mark = mark
	return t
}

// allMarked is t with a mark at each line.
func allMarked(t []api.Line, mark int) []api.Line {
	t = slices.Clone(t)
	for i := range t {
		t[i].Mark = mark
	}
	return t
}

// read makes a tree of a text with braces.
func read(t *testing.T, s string) []api.Line {
	t.Helper()
	x, at, e := parse.Tree(s)
	if e != api.OK {
		t.Fatalf("%q: %d, %d", s, at, e)
	}
	return x
}

// words tells paths of texts, each with a blank between two words.
func words(texts ...string) [][]string {
	var out [][]string
	for _, s := range texts {
		out = append(out, strings.Fields(s))
	}
	return out
}

// noTrees are lists of lines that are no tree, each for one cause.
func noTrees() [][]api.Line {
	return [][]api.Line{
		{line(1, "a")}, {line(-1, "a")}, {line(math.MinInt, "a")}, {line(math.MaxInt, "a")}, {line(16, "a")}, chain(17),
		{line(0, "a"), line(2, "b")}, {line(0, "a"), line(-1, "b")}, {line(0, "a"), line(math.MaxInt, "b")},
		{line(0, fortyOne)}, {line(0, "a"), line(1, fortyOne)}, {line(0, "a"), line(0, strings.Repeat("b", 100000))},
		{signed(0, "a", 4)}, {signed(0, "a", 5)}, {signed(0, "a", -1)}, {signed(0, "a", math.MinInt)}, {line(0, "a"), signed(1, "b", 4)},
		{line(0, "b"), line(0, "a")}, {line(0, "a"), line(0, "a")}, {line(0, ""), line(0, "")},
		{line(0, "a"), line(1, "b"), line(2, "x"), line(1, "b")}, {line(0, "a"), line(1, "b"), line(0, "a")},
		{line(0, "groups"), line(1, "g"), line(0, "apply"), line(1, "g")}, {line(0, "apply"), line(1, "g"), line(1, "g"), line(0, "groups"), line(1, "g")},
		// What is wrong stands in a part that would be gone.
		{signed(0, "a", 1), line(2, "b")}, {line(0, "apply"), line(0, "groups"), line(1, fortyOne)}, {signed(0, "a", 1), signed(1, "b", 4)},
		flat(201), append(flat(200), signed(1, "a", 1)), allMarked(flat(201), 1), make([]api.Line, 201), deeper("groups", under(flat(199), "g")),
	}
}

// short writes what is told, as far as anybody reads on.
func short(x any) string { return fmt.Sprintf("%.300s", fmt.Sprintf("%q", fmt.Sprint(x))) }

func same(a, b [][]string) bool { return slices.EqualFunc(a, b, slices.Equal[[]string]) }

// call is one of the calls that tell a tree of a tree.
type call func(t []api.Line) ([]api.Line, api.Errno)

// tells fails, unless the call answers that tree.
func tells(t *testing.T, f call, x, want []api.Line) {
	t.Helper()
	if got, e := f(x); e != api.OK || !slices.Equal(got, want) {
		t.Errorf("%s: %s, %d; it should be %s", short(x), short(got), e, short(want))
	}
}

// refused fails, unless the call answers that error, and nothing beside it.
func refused(t *testing.T, f call, x []api.Line, fault api.Errno) {
	t.Helper()
	if got, e := f(x); e != fault || len(got) != 0 {
		t.Errorf("%s: %s, %d; it should be %d", short(x), short(got), e, fault)
	}
}

// found fails, unless the group has those paths.
func found(t *testing.T, x []api.Line, g string, want [][]string) {
	t.Helper()
	if got, e := Paths(x, g); e != api.OK || !same(got, want) {
		t.Errorf("%s, of %.80q: %s, %d; it should be %s", short(x), g, short(got), e, short(want))
	}
}

// lacks fails, unless Paths answers that error, and nothing beside it.
func lacks(t *testing.T, x []api.Line, g string, fault api.Errno) {
	t.Helper()
	if got, e := Paths(x, g); e != fault || len(got) != 0 {
		t.Errorf("%s, of %.80q: %s, %d; it should be %d", short(x), g, short(got), e, fault)
	}
}

// P12.1: no lines at all are a tree, which has no group.
func TestNoLines(t *testing.T) {
	for _, x := range [][]api.Line{nil, {}} {
		tells(t, Active, x, nil)
		tells(t, Explicit, x, nil)
		tells(t, Expand, x, nil)
		for _, g := range []string{"", "g", "*", "groups", "apply", forty, fortyOne} {
			lacks(t, x, g, api.ErrNone)
		}
	}
}

// P12.1, P12.2, R2: lines that are no tree, at each call, whatever group is asked for.
func TestWrong(t *testing.T) {
	for _, x := range noTrees() {
		for _, f := range []call{Active, Explicit, Expand} {
			refused(t, f, x, api.ErrArg)
		}
		for _, g := range []string{"", "g", "a", "b", "*", fortyOne} {
			lacks(t, x, g, api.ErrArg)
		}
	}
}

// P12.1: lines that are Inactive, first, in the middle and last, with and without lines under them, and marks that are no more.
func TestActive(t *testing.T) {
	for _, c := range []struct{ text, want string }{
		{"a;", "a;"}, {"a { b; } c;", "a { b; } c;"},
		{"inactive: a; b; c;", "b; c;"}, {"a; inactive: b; c;", "a; c;"}, {"a; b; inactive: c;", "a; b;"},
		{"inactive: a { d; } b; c;", "b; c;"}, {"a; inactive: b { d; } c;", "a; c;"}, {"a; b; inactive: c { d { e; } f; }", "a; b;"},
		{"inactive: a;", ""}, {"inactive: a { b; c { d; } }", ""}, {"inactive: a; inactive: b { c; } inactive: protect: d;", ""},
		{"a { inactive: b; }", "a;"}, {"a { inactive: b { c; } d; } e;", "a { d; } e;"}, {"a { b; inactive: c { d; } } e;", "a { b; } e;"},
		{"a { b { inactive: c; } } d;", "a { b; } d;"}, {"a { b { c { inactive: d { e; } } d; } }", "a { b { c; d; } }"},
		{"inactive: a { inactive: b; c; } d;", "d;"}, {"inactive: a { inactive: b { c; } } inactive: d { e; } f { inactive: g; }", "f;"},
		{"inactive: a { protect: b; } c;", "c;"}, {"protect: a { inactive: b; c; }", "a { c; }"},
		{"protect: a;", "a;"}, {"protect: a { protect: b; c; } protect: d;", "a { b; c; } d;"},
		{"inactive: protect: a { b; } c;", "c;"}, {"a; b { inactive: protect: c; d; }", "a; b { d; }"},
		{"groups { g { a; inactive: b; } inactive: h { c; } } apply { g; inactive: h; }", "groups { g { a; } } apply { g; }"},
		{"protect: groups { protect: g; } inactive: apply { g; }", "groups { g; }"}, {"inactive: groups { g; } apply { g; }", "apply { g; }"},
		{"groups; apply;", "groups; apply;"}, {"groups { g { * { a; } } }", "groups { g { * { a; } } }"},
	} {
		tells(t, Active, read(t, c.text), read(t, c.want))
	}
}

// P12.1: each mark at each line of trees of many forms, up to the most lines and the greatest Depth.
func TestEachMark(t *testing.T) {
	for _, x := range [][]api.Line{chain(16), flat(200), deeper("x", flat(199)), under(flat(190), "a", "b", "c"), append(flat(184), chain(16)...), {line(0, ""), line(1, ""), line(0, forty)},
		read(t, "a { b { c; d { e; } } f; } g; h { i { j; } k { l; m; } }")} {
		for i := range x {
			for mark := range 4 {
				want := x
				if mark%2 == 1 {
					want = slices.Delete(slices.Clone(x), i, tree.End(x, i))
				}
				tells(t, Active, withMark(x, i, mark), want)
				tells(t, Explicit, withMark(x, i, mark), want)
				tells(t, Expand, withMark(x, i, mark), want)
			}
		}
		for mark, want := range [][]api.Line{x, nil, x, nil} {
			tells(t, Active, allMarked(x, mark), want)
			tells(t, Explicit, allMarked(x, mark), want)
			tells(t, Expand, allMarked(x, mark), want)
		}
	}
}

// P12.1: groups and apply of Depth 0, alone, both, with nothing under them, Inactive, and those that stand under other lines.
func TestExplicit(t *testing.T) {
	for _, c := range []struct{ text, want string }{
		{"a { b; } c;", "a { b; } c;"}, {"protect: a { inactive: b; c; }", "a { c; }"},
		{"groups;", ""}, {"apply;", ""}, {"groups; apply;", ""}, {"groups { g { a; } }", ""}, {"apply { g; }", ""}, {"groups { g; } apply { g; h; }", ""},
		{"groups { g { a; } } b;", "b;"}, {"apply { g { h; } } b;", "b;"}, {"a; apply { g; } b; groups { g { a; } h { b; } } z { y; }", "a; b; z { y; }"},
		{"groups; a;", "a;"}, {"apply; zz;", "zz;"}, {"a; groups; h;", "a; h;"},
		{"inactive: groups { g; } a;", "a;"}, {"groups { inactive: g; } inactive: apply; inactive: a; b;", "b;"},
		{"a { groups { g { b; } } apply { g; } }", "a { groups { g { b; } } apply { g; } }"}, {"a { groups; }", "a { groups; }"}, {"a { b { apply; groups; } }", "a { b { apply; groups; } }"},
		{"groups { groups { groups; } } apply { apply; } a { apply { groups; } }", "a { apply { groups; } }"}, {"groups { a; } a;", "a;"},
		{"group; groupss; Groups; appl; applyy; Apply; apply:; \" groups\"; \"\";", "group; groupss; Groups; appl; applyy; Apply; apply:; \" groups\"; \"\";"},
		{"* { a; }", "* { a; }"},
	} {
		tells(t, Explicit, read(t, c.text), read(t, c.want))
	}
	for _, w := range []string{"groups", "apply"} {
		tells(t, Explicit, joined(flat(100), under(chain(14), w, "g")), flat(100))
		tells(t, Explicit, under(flat(198), w, "g"), nil)
		tells(t, Explicit, append(deeper(w, chain(15)), line(0, "z")), list(line(0, "z")))
	}
}

// P12.1: groups that are not there, or are Inactive, or stand in a line that is, or elsewhere.
func TestPathsNone(t *testing.T) {
	for _, s := range []string{"", "a;", "groups;", "groups { h { a; } }", "groups { inactive: g { a; } }", "groups { inactive: protect: g; h; }", "inactive: groups { g { a; } }", "inactive: groups { inactive: g; }",
		"apply { g; }", "apply { g { a; } } groups { h; }", "g { a; }", "a { groups { g { a; } } }", "groups { h { g { a; } } }", "groups { h { groups { g; } } }", "groups { G; gg; \"\"; \"g \"; * { a; } }"} {
		lacks(t, read(t, s), "g", api.ErrNone)
	}
	x := read(t, "groups { g { a; } } a;")
	for _, g := range []string{"", "*", "a", "groups", "apply", "G", "gg", "g ", "groups g", "g a", forty, fortyOne, strings.Repeat("g", 100000), "\xff"} {
		lacks(t, x, g, api.ErrNone)
	}
}

// P12.1: paths without a word *, inherited or not, in order, each of a line under which nothing stands.
func TestPathsPlain(t *testing.T) {
	for _, c := range []struct {
		text string
		want [][]string
	}{
		{"groups { g; }", nil}, {"groups { g; } a { b; }", nil}, {"protect: groups { protect: g; h { a; } }", nil},
		{"groups { g { inactive: a; } }", nil}, {"groups { g { inactive: a { b; } inactive: c; } } a;", nil},
		{"groups { g { a; } }", words("a")}, {"groups { g { protect: a; } } a;", words("a")}, {"groups { g { a { b; } } }", words("a b")},
		{"groups { g { a { inactive: b; } } }", words("a")}, {"groups { g { a { b { inactive: c; } inactive: d; } } }", words("a b")},
		{"groups { g { b { d; c { e; } } a; f { g { h; } } } }", words("a", "b c e", "b d", "f g h")},
		{"groups { f { a; } g { b; c; } h { d; } }", words("b", "c")}, {"groups { f { a; } g; h { d; } }", nil},
		{"groups { f { x { y; } } g { x { y; } } } x { y; z; }", words("x y")},
		// None of these is inherited.
		{"groups { g { x { y; } } } x { z; }", words("x y")}, {"groups { g { groups; apply; } }", words("apply", "groups")},
		{"groups { g { groups { a { b; } } apply { h; } } }", words("apply h", "groups a b")}, {"groups { g { a { b; } } } a { b; c; }", words("a b")},
	} {
		found(t, read(t, c.text), "g", c.want)
	}
	found(t, under(chain(14), "groups", "g"), "g", [][]string{slices.Repeat(path("x"), 14)})
	found(t, under(flat(198), "groups", "g"), "g", alone(198))
	found(t, under(list(line(0, forty)), "groups", forty), forty, [][]string{{forty}})
	found(t, under(list(line(0, ""), line(1, "")), "groups", ""), "", [][]string{{"", ""}})
	found(t, under(list(line(0, "a")), "groups", "*"), "*", words("a"))
	found(t, under(list(line(0, "a")), "groups", "groups"), "groups", words("a"))
	found(t, under(list(line(0, "a")), "groups", "apply"), "apply", words("a"))
}

// alone are paths of one Word of flat each, with others behind it.
func alone(n int, behind ...string) [][]string {
	var out [][]string
	for i := range n {
		out = append(out, append(path(flatWord(i)), behind...))
	}
	return out
}

// P12.1: a word * first, in the middle and last, two of them and more, where nothing, one line and many stand.
func TestPathsAny(t *testing.T) {
	for _, c := range []struct {
		group, explicit string
		want            [][]string
	}{
		{"* { z; }", "", nil}, {"* { z; }", "a;", words("a z")}, {"* { z; }", "b { c; } a; d;", words("a z", "b z", "d z")},
		{"*;", "", nil}, {"*;", "a { b; }", words("a")}, {"*;", "a { b; } c;", words("a", "c")},
		{"a { * { z; } }", "a { b; c { d; } } e { f; }", words("a b z", "a c z")}, {"a { * { z; } }", "a { b; }", words("a b z")}, {"a { * { z; } }", "a; b { c; }", nil}, {"a { * { z; } }", "b { a { c; } }", nil},
		{"a { *; }", "a { b; c { d; } }", words("a b", "a c")}, {"a { *; }", "a;", nil}, {"a { *; }", "", nil}, {"a { b { *; } }", "a { b { c; d; e; } }", words("a b c", "a b d", "a b e")},
		{"* { *; }", "f; a { c; b; } d { e; }", words("a b", "a c", "d e")}, {"* { *; }", "a; b;", nil}, {"* { * { z; } }", "a { b; c; } d { e; }", words("a b z", "a c z", "d e z")},
		{"* { m { * { z; } } }", "a { m { 1; 2; } } b { n { 3; } } c { m; } d { m { 4; } }", words("a m 1 z", "a m 2 z", "d m 4 z")},
		{"m { * { * { *; } } }", "m { a { b { c; } d; } e { f { h; g; } } } n { o { p { q; } } }", words("m a b c", "m e f g", "m e f h")},
		{"* { y; z { * ; } }", "a; b { z { c; } }", words("a y", "b y", "b z c")},
		// Of each line of the group, in order; what one stands for another one may say, too.
		{"b; *; a;", "b; c;", words("b", "c", "a", "b")}, {"\"!\"; * { y; z; }", "a; b;", words("!", "a y", "b y", "a z", "b z")}, {"* { a; * { z; } }", "a { b; c; }", words("a b z", "a c z", "a a")},
		// No other word stands for any, and none of the group's own is one that stands there.
		{"**; a* { z; } *a;", "b; c;", words("**", "*a", "a* z")}, {"a { b; } * { z; }", "", words("a b")}, {"a { b; } * { z; }", "c;", words("c z", "a b")}, {"a { * { z; } b; }", "a;", words("a b")},
	} {
		found(t, read(t, "groups { g { "+c.group+" } } "+c.explicit), "g", c.want)
		found(t, read(t, "groups { f { y; } g { "+c.group+" } h { y; } } apply { f; g; } "+c.explicit), "g", c.want)
		found(t, read(t, "groups { * { "+c.group+" } } "+c.explicit), "*", c.want)
	}
}

// P12.1: what a word * does not meet: what is Inactive, and groups and apply of Depth 0; and what it does: their like under other lines, and a * that stands there.
func TestPathsMet(t *testing.T) {
	for _, c := range []struct {
		text string
		want [][]string
	}{
		{"groups { g { * { z; } } } inactive: a; b { c; } inactive: d { e; }", words("b z")}, {"groups { g { a { *; } } } a { inactive: b; c; }", words("a c")}, {"groups { g { a { *; } } } inactive: a { b; }", nil},
		{"groups { g { a { * { *; } } } } a { b { inactive: c; } inactive: d { e; } f { h; } }", words("a f h")}, {"groups { g { inactive: * { z; } a; } } b;", words("a")}, {"groups { g { * { inactive: z; } } } b;", words("b")},
		{"groups { g { * { z; } } } apply { g; } protect: a;", words("a z")}, {"groups { g { *; } } apply { g; }", nil}, {"groups { g { groups { *; } apply { *; } } } apply { g; }", nil}, {"groups { g { * { *; } } } apply { g; }", nil},
		{"groups { g { x { * { z; } } } } x { groups { h; } apply { h; } y; }", words("x apply z", "x groups z", "x y z")}, {"groups { g { * { groups { *; } } } } x { groups { h { i; } } }", words("x groups h")},
		{"groups { g { * { *; } } } x { groups { h; } } y { apply { h; } }", words("x groups", "y apply")}, {"groups { g { * { * { * { *; } } } } } x { groups { h { i; j; } } apply { h; } }", words("x groups h i", "x groups h j")},
		{"groups { g { * { z; } } } * { y; } a;", words("* z", "a z")}, {"groups { g { * { *; } } } * { *; b; } a { * { c; } }", words("* *", "* b", "a *")}, {"groups { g { * { * { q; } } } } * { * { x; } }", words("* * q")},
		{"groups { g { * { * { *; } } } } * { a { b; } } a { * { c; d; } }", words("* a b", "a * c", "a * d")}, {"groups { g { *; } } *;", words("*")}, {"groups { g { a { * { z; } } } } * { b; } a { *; }", words("a * z")},
	} {
		found(t, read(t, c.text), "g", c.want)
	}
}

// P12.1: words * at each Depth, and as many paths as may be.
func TestPathsLarge(t *testing.T) {
	anyOf := func(n int) []api.Line {
		x := chain(n)
		for i := range x {
			x[i].Word = "*"
		}
		return x
	}
	for n := 1; n <= 14; n++ {
		group := under(anyOf(n), "groups", "g")
		found(t, append(slices.Clone(group), chain(16)...), "g", [][]string{slices.Repeat(path("x"), n)})
		found(t, append(slices.Clone(group), chain(n)...), "g", [][]string{slices.Repeat(path("x"), n)})
		found(t, append(slices.Clone(group), chain(n-1)...), "g", nil)
	}
	group := under(list(line(0, "*"), line(1, "y"), line(1, "z")), "groups", "zz")
	var want [][]string
	for _, w := range path("y", "z") {
		want = append(want, alone(95, w)...)
	}
	found(t, append(flat(95), group...), "zz", want)
	group = under(deeper("*", flat(98)), "groups", "zz")
	want = nil
	for i := range 98 {
		want = append(want, alone(99, flatWord(i))...)
	}
	found(t, append(flat(99), group...), "zz", want)
}

// expands fails, unless that text's tree comes out.
func expands(t *testing.T, text, want string) {
	t.Helper()
	tells(t, Expand, read(t, text), read(t, want))
}

// P12.2: the chapter's example, and groups of several kinds.
func TestExpand(t *testing.T) {
	for _, c := range []struct{ text, want string }{
		{"groups { g { hosts { * { mtu { 9; } } } } } apply { g; } hosts { a; b { mtu { 1; } } }", "hosts { a { mtu { 9; } } b { mtu { 1; } } }"},
		{"groups { g { hosts { * { mtu { 9; } } } } } apply { g; } hosts { a { mtu; } b { ip { 1; } } }", "hosts { a { mtu { 9; } } b { ip { 1; } mtu { 9; } } }"},
		{"groups { g { hosts { * { mtu { 9; } } } } } apply { g; } hosts;", "hosts;"}, {"groups { g { hosts { * { mtu { 9; } } } } } apply { g; }", ""},
		{"groups { g { *; apply { h; } } } apply { g; } a;", "a;"}, {"groups { g; } apply { g; }", ""}, {"groups { g; } apply { g; } a { b; }", "a { b; }"}, {"groups { g { inactive: a; } } apply { g; } b;", "b;"},
		// Marks are no more, neither those of what is explicit nor those of what is added.
		{"protect: a { protect: b; } groups { protect: g { protect: c { protect: d; } } } protect: apply { protect: g; }", "a { b; } c { d; }"}, {"inactive: a { b; } groups { g { a { c; } } } apply { g; }", "a { c; }"},
		{"protect: a { inactive: b; } groups { g { a { c; } } } apply { g; }", "a { c; }"}, {"a { protect: b; } groups { g { a { c; } } } apply { g; }", "a { b; }"},
		// What is added stands in its order.
		{"groups { g { a; c { a; c; } e; } } apply { g; } b; d;", "a; b; c { a; c; } d; e;"}, {"groups { g { m { a; z; } \"\"; } } apply { g; } m;", "\"\"; m { a; z; }"},
		{"groups { g { * { * { *; } } } } apply { g; } a { b { c; d; } e; }", "a { b { c; d; } e; }"}, {"groups { g { * { * { z; } } } } apply { g; } * { *; a; }", "* { * { z; } a { z; } }"},
	} {
		expands(t, c.text, c.want)
	}
}

// P12.2: which groups are applied: none, one, the same one again, several, whatever stands under the line, and those of odd names.
func TestApplied(t *testing.T) {
	const three = "groups { f { a { 1; } } g { a { 2; } } h { a { 3; } q; } } b; "
	for _, c := range []struct{ apply, want string }{
		{"", "b;"}, {"apply;", "b;"}, {"protect: apply;", "b;"}, {"apply { inactive: g; }", "b;"}, {"inactive: apply { g; }", "b;"}, {"inactive: apply { nowhere; }", "b;"}, {"apply { inactive: nowhere; g; }", "a { 2; } b;"},
		{"apply { f; }", "a { 1; } b;"}, {"apply { protect: g; }", "a { 2; } b;"}, {"apply { h; }", "a { 3; } b; q;"}, {"apply { f; g; }", "a { 1; 2; } b;"}, {"apply { h; f; }", "a { 1; 3; } b; q;"},
		{"apply { h; g; f; }", "a { 1; 2; 3; } b; q;"}, {"apply { f; inactive: g; h; }", "a { 1; 3; } b; q;"}, {"apply { g { f; nowhere; } }", "a { 2; } b;"}, {"apply { g { inactive: h; } }", "a { 2; } b;"},
		{"c { apply { g; nowhere; } }", "b; c { apply { g; nowhere; } }"}, {"c { apply { g; } } apply { f; }", "a { 1; } b; c { apply { g; } }"},
	} {
		expands(t, three+c.apply, c.want)
	}
	for _, w := range []string{"*", "groups", "apply", "\"\"", "b", forty} {
		expands(t, "groups { "+w+" { a; } z { c; } } apply { "+w+"; } b;", "a; b;")
		expands(t, "groups { "+w+" { a; } z { c; } } apply { z; } b;", "b; c;")
	}
	// A group that another one names is not applied by that.
	expands(t, "groups { g { apply { h; } x; } h { y; } } apply { g; }", "x;")
	expands(t, "groups { g { apply { nowhere; } groups { nowhere { y; } } } } apply { g; }", "")
}

// P12.2: a group that is applied, and is not there.
func TestExpandNone(t *testing.T) {
	for _, s := range []string{"apply { g; }", "apply { g; } a;", "groups; apply { g; }", "groups { h { g; } } apply { g; }", "groups { inactive: g { x; } } apply { g; }", "inactive: groups { g { x; } } apply { g; }", "groups { g; } apply { g; h; }",
		"groups { h; } apply { g; h; }", "groups { g; i; } apply { g; h; i; }", "groups { g; } apply { *; }", "groups { *; } apply { g; }", "groups { g; } apply { G; }", "groups { g; } apply { \"\"; }", "g { x; } apply { g; }",
		"a { groups { g { x; } } } apply { g; }", "groups { h { groups { g { x; } } } } apply { g; h; }", "groups { g; } apply { h { g; } }", "groups { inactive: protect: g; } protect: apply { protect: g; }", "apply { apply; }", "groups { g; } apply { groups; }"} {
		refused(t, Expand, read(t, s), api.ErrNone)
	}
}

// P12.2: which paths are inherited: one word; the path without the last word is not there, is there with nothing under it, and with something.
func TestInherited(t *testing.T) {
	for _, c := range []struct{ group, explicit, want string }{
		{"a;", "", "a;"}, {"a;", "b { c; }", "a; b { c; }"}, {"a;", "a;", "a;"}, {"a;", "a { b; }", "a { b; }"}, {"*;", "a { b; }", "a { b; }"},
		{"a { b; }", "", "a { b; }"}, {"a { b; }", "c;", "a { b; } c;"}, {"a { b; }", "a;", "a { b; }"}, {"a { b; }", "a { c; }", "a { c; }"}, {"a { b; }", "a { b; }", "a { b; }"}, {"a { b; }", "a { b { c; } }", "a { b { c; } }"},
		{"a { b; }", "a { c; b; }", "a { b; c; }"}, {"a { b { c; } }", "a { d; }", "a { b { c; } d; }"}, {"a { b { c; } }", "a { b; }", "a { b { c; } }"}, {"a { b { c; } }", "a { b; d; }", "a { b { c; } d; }"},
		{"a { b { c; } }", "a { b { d; } }", "a { b { d; } }"}, {"a { b { c; } }", "a { b { c { d; } } }", "a { b { c { d; } } }"}, {"a { b { c { d; } } }", "a { b { e; } }", "a { b { c { d; } e; } }"},
		{"a { b; c { d; } }", "a;", "a { b; c { d; } }"}, {"a { b; c { d; } }", "a { z; }", "a { c { d; } z; }"}, {"a { b; c { d; } }", "a { c; }", "a { c { d; } }"}, {"a { b; c { d; } }", "a { c { z; } }", "a { c { z; } }"},
		{"a { b; c; }", "a;", "a { b; c; }"}, {"a { b; c; }", "a { b; }", "a { b; }"}, {"* { b; }", "a; c { d; } e;", "a { b; } c { d; } e { b; }"}, {"a { *; }", "a { b; }", "a { b; }"}, {"a { * { z; } }", "a { b; c { y; } }", "a { b { z; } c { y; } }"},
		{"a { b; }", "a { inactive: c; }", "a { b; }"}, {"a { b; }", "a { inactive: b { c; } }", "a { b; }"}, {"a { b; }", "inactive: a { c; }", "a { b; }"}, {"a { b; }", "b { a { c; } }", "a { b; } b { a { c; } }"},
		// By the first word alone groups and apply are not.
		{"groups; apply;", "", ""}, {"groups { a; } apply { b { c; } } x;", "y;", "x; y;"}, {"groups { h { a; } }", "b;", "b;"}, {"apply { g; }", "b;", "b;"}, {"x { groups; apply { h; } }", "", "x { groups; apply { h; } }"},
		{"x { groups { h; } }", "x;", "x { groups { h; } }"}, {"x { groups { h; } }", "x { apply { h; } }", "x { apply { h; } groups { h; } }"}, {"x { groups { h; } }", "x { groups { i; } }", "x { groups { i; } }"},
		{"group; applyy; Groups;", "", "Groups; applyy; group;"}, {"x { * { z; } }", "x { groups; apply { h; } }", "x { apply { h; } groups { z; } }"}, {"* { groups; }", "x; y { z; }", "x { groups; } y { z; }"},
	} {
		expands(t, "groups { g { "+c.group+" } } apply { g; } "+c.explicit, c.want)
		// Not applied, or said once more by another group, it makes no difference.
		expands(t, "groups { f { "+c.group+" } g { "+c.group+" } h { "+c.group+" } } apply { f; g; } "+c.explicit, c.want)
	}
}

// P12.2: paths of as many words as there may be, over lines that are there up to each Depth.
func TestInheritedDeep(t *testing.T) {
	for n := 1; n <= 14; n++ {
		p := append(chain(n-1), line(n-1, "y"))
		group := joined(under(p, "groups", "g"), under(nil, "apply", "g"))
		for there := range api.MaxDepth + 1 {
			explicit := chain(there)
			want := explicit
			// The path without the last word has n-1 words; with n lines something stands under it.
			if n == 1 || there < n {
				want = joined(explicit, p)
			}
			tells(t, Expand, joined(group, explicit), want)
			tells(t, Expand, joined(group, explicit, p), joined(explicit, p))
		}
	}
}

// P12.2: two groups that say the same, unlike things, and of which one adds what the other one's paths meet: it is what is explicit that counts.
func TestTwoGroups(t *testing.T) {
	for _, c := range []struct{ f, g, explicit, want string }{
		{"a { 1; }", "a { 1; }", "", "a { 1; }"}, {"a { 1; }", "a { 2; }", "", "a { 1; 2; }"}, {"a { 2; }", "a { 1; }", "a;", "a { 1; 2; }"}, {"a { 2; }", "a { 1; }", "a { 3; }", "a { 3; }"},
		{"a;", "b;", "", "a; b;"}, {"a { b; }", "a;", "", "a { b; }"}, {"a;", "a { b; }", "", "a { b; }"}, {"a { b; }", "a { b { c; } }", "", "a { b { c; } }"}, {"a { b { c; } }", "a { d; }", "a;", "a { b { c; } d; }"},
		// A * meets nothing of what another group has added.
		{"a { b; }", "a { * { c; } }", "a;", "a { b; }"}, {"x;", "* { c; }", "a;", "a { c; } x;"}, {"x { y; }", "x { *; }", "", "x { y; }"}, {"* { c; }", "* { * { d; } }", "a; b { e; }", "a { c; } b { e { d; } }"},
		{"a { b; }", "* { c; }", "", "a { b; }"}, {"a;", "* { c; }", "", "a;"},
		// What another group has added closes no path: the line has nothing under it in what is explicit.
		{"a { b; }", "a { c; }", "a;", "a { b; c; }"}, {"a { b { c; } }", "a { b { d; } }", "a { b; }", "a { b { c; d; } }"}, {"* { b; }", "* { c; }", "a; d { e; }", "a { b; c; } d { e; }"}, {"a { b; }", "a { b { c; } d; }", "a;", "a { b { c; } d; }"},
	} {
		for _, two := range [][2]string{{c.f, c.g}, {c.g, c.f}} {
			expands(t, "groups { f { "+two[0]+" } g { "+two[1]+" } } apply { f; g; } "+c.explicit, c.want)
		}
	}
}

// wide has n lines that are explicit, and a group that is applied: paths with a * ahead, each under all of these lines, and some of one word.
func wide(n, each, more int) []api.Line {
	return joined(flat(n), under(deeper("*", flat(each)), "groups", "g"), under(single(more), "groups", "g"), under(nil, "apply", "g"))
}

// single has n lines of Depth 0, behind those of flat.
func single(n int) []api.Line {
	x := flat(n)
	for i := range x {
		x[i].Word = "z" + x[i].Word
	}
	return x
}

// P12.2: just as many lines as there may be, one less, and one more.
func TestExpandLong(t *testing.T) {
	for _, c := range []struct{ n, each int }{{7, 1}, {2, 6}, {49, 3}, {99, 1}, {14, 13}, {66, 2}, {20, 8}, {6, 30}, {2, 80}} {
		var want []api.Line
		for i := range c.n {
			want = append(want, deeper(flatWord(i), flat(c.each))...)
		}
		more := 200 - len(want)
		tells(t, Expand, wide(c.n, c.each, more-1), append(slices.Clone(want), single(more-1)...))
		tells(t, Expand, wide(c.n, c.each, more), append(slices.Clone(want), single(more)...))
		refused(t, Expand, wide(c.n, c.each, more+1), api.ErrLong)
	}
	tells(t, Expand, wide(195, 0, 0), flat(195))
	tells(t, Expand, wide(0, 1, 194), single(194))
	for _, c := range []struct{ n, each int }{{67, 2}, {95, 95}, {180, 1}, {101, 1}, {2, 100}, {3, 190}} {
		refused(t, Expand, wide(c.n, c.each, 0), api.ErrLong)
	}
}

// P12.2: what is not inherited, not applied, not active, or said already, is no line too many.
func TestExpandNotLong(t *testing.T) {
	var full []api.Line
	for i := range 45 {
		full = append(full, deeper(flatWord(i), flat(3))...)
	}
	tells(t, Expand, joined(full, under(deeper("*", single(10)), "groups", "g"), under(nil, "apply", "g")), full)
	tells(t, Expand, joined(flat(60), under(deeper("*", flat(4)), "groups", "g"), under(nil, "apply")), flat(60))
	x := joined(flat(60), under(deeper("*", flat(2)), "groups", "f"), under(deeper("*", flat(2)), "groups", "g"), under(flat(60), "groups", "g"), under(nil, "apply", "f"), under(nil, "apply", "g"))
	y, e := Expand(x)
	if e != api.OK || len(y) != 180 {
		t.Errorf("%s: %d lines, %d", short(x), len(y), e)
	}
	refused(t, Expand, joined(x, under(deeper("*", single(1)), "groups", "g")), api.ErrLong)
	off := joined(x, under(deeper("*", single(1)), "groups", "g"))
	i, _ := tree.Find(off, path("groups", "g", "*", "zaa"))
	tells(t, Expand, withMark(off, i, api.Inactive), y)
	off = joined(x, under(deeper("*", single(1)), "groups", "h"))
	tells(t, Expand, off, y)
}

// P12.2, R2: of several errors the one that is named first: a group that is not there, wherever it is applied, goes ahead of too many lines.
func TestErrorsInOrder(t *testing.T) {
	x := wide(95, 90, 0)
	refused(t, Expand, x, api.ErrLong)
	for _, g := range path("a", "z", "", "*") {
		refused(t, Expand, joined(x, under(nil, "apply", g)), api.ErrNone)
		both := joined(x, under(nil, "apply", g), under(nil, "groups", g))
		refused(t, Expand, both, api.ErrLong)
		refused(t, Expand, append(both, line(0, "aa")), api.ErrArg)
		for i := range both {
			refused(t, Expand, withMark(both, i, 4), api.ErrArg)
		}
	}
	lacks(t, append(x, line(0, "aa")), "nowhere", api.ErrArg)
	lacks(t, x, "nowhere", api.ErrNone)
}

// joined has all paths of some trees, without marks.
func joined(trees ...[]api.Line) []api.Line {
	var out []api.Line
	for _, t := range trees {
		for _, p := range pathsOf(t) {
			out, _ = lines.Add(out, p)
		}
	}
	return out
}

// pathsOf tells the path of each line.
func pathsOf(t []api.Line) [][]string {
	var l [][]string
	for i := range t {
		p, _ := tree.Path(t, i)
		l = append(l, p)
	}
	return l
}

// key makes one text of a path; no word of the trees that are made for it has a byte 0, so that keys stand in order byte by byte as paths do word by word.
func key(p []string) string { return strings.Join(p, "\x00") }

// begins: are the words the beginning of a path, or the path itself?
func begins(p []string, with ...string) bool {
	return len(p) >= len(with) && slices.Equal(p[:len(with)], with)
}

// activeAgain says the chapter's words of the active tree again, of its paths.
func activeAgain(t []api.Line) [][]string {
	all := pathsOf(t)
	var off [][]string
	for i, p := range all {
		if t[i].Mark%2 == 1 {
			off = append(off, p)
		}
	}
	return slices.DeleteFunc(all, func(p []string) bool {
		return slices.ContainsFunc(off, func(q []string) bool { return begins(p, q...) })
	})
}

func explicitAgain(active [][]string) [][]string {
	return slices.DeleteFunc(slices.Clone(active), func(p []string) bool { return begins(p, "groups") || begins(p, "apply") })
}

// meets: does a path that is explicit meet each word of a group's path?
func meets(p, words []string) bool {
	return slices.EqualFunc(p, words, func(a, b string) bool { return b == "*" || a == b })
}

// pathsAgain says the chapter's words of a group's paths again: what stands up to the last * is a path that is explicit.
func pathsAgain(active [][]string, g string) ([][]string, bool) {
	there := false
	var out [][]string
	for _, p := range active {
		there = there || len(p) == 2 && begins(p, "groups", g)
		longer := func(q []string) bool { return len(q) > len(p) && begins(q, p...) }
		if len(p) < 3 || !begins(p, "groups", g) || slices.ContainsFunc(active, longer) {
			continue
		}
		words := p[2:]
		last := len(words) - 1
		for last >= 0 && words[last] != "*" {
			last--
		}
		if last < 0 {
			out = append(out, words)
			continue
		}
		for _, q := range explicitAgain(active) {
			if meets(q, words[:last+1]) {
				out = append(out, slices.Concat(q, words[last+1:]))
			}
		}
	}
	return out, there
}

// inheritedAgain says the chapter's words of that again.
func inheritedAgain(explicit [][]string, p []string) bool {
	above := p[:len(p)-1]
	is := func(q []string) bool { return slices.Equal(q, above) }
	more := func(q []string) bool { return len(q) > len(above) && begins(q, above...) }
	return p[0] != "groups" && p[0] != "apply" && (len(p) == 1 || !slices.ContainsFunc(explicit, is) || !slices.ContainsFunc(explicit, more))
}

// expandAgain says the chapter's words of Expand again.
func expandAgain(active [][]string) ([]api.Line, api.Errno) {
	explicit := explicitAgain(active)
	keys := map[string]int{}
	for _, p := range explicit {
		keys[key(p)]++
	}
	for _, p := range active {
		if len(p) != 2 || p[0] != "apply" {
			continue
		}
		all, there := pathsAgain(active, p[1])
		if !there {
			return nil, api.ErrNone
		}
		for _, q := range all {
			for n := range q {
				if inheritedAgain(explicit, q) {
					keys[key(q[:n+1])]++
				}
			}
		}
	}
	if len(keys) > 200 {
		return nil, api.ErrLong
	}
	return treeOf(keys), api.OK
}

// treeOf makes a tree of paths, as keys.
func treeOf(keys map[string]int) []api.Line {
	var out []api.Line
	for _, k := range slices.Sorted(maps.Keys(keys)) {
		p := strings.Split(k, "\x00")
		out = append(out, line(len(p)-1, p[len(p)-1]))
	}
	return out
}

// treeOfPaths is treeOf, of paths.
func treeOfPaths(paths [][]string) []api.Line {
	keys := map[string]int{}
	for _, p := range paths {
		keys[key(p)]++
	}
	return treeOf(keys)
}

// treesOf are all trees of up to n lines of some depths, words and marks.
func treesOf(n, deepest int, words []string, marks ...int) [][]api.Line {
	var out [][]api.Line
	var grow func(t []api.Line)
	grow = func(t []api.Line) {
		if !tree.Right(t) {
			return
		}
		out = append(out, t)
		if len(t) == n {
			return
		}
		for d := range deepest + 1 {
			for _, w := range words {
				for _, m := range marks {
					grow(append(slices.Clone(t), signed(d, w, m)))
				}
			}
		}
	}
	grow(nil)
	return out
}

// dice answers a function that tells numbers below one, the same ones at each run.
func dice(seed int) func(below int) int {
	number := uint32(seed)
	return func(below int) int {
		number = number*1664525 + 1013904223
		return int(number>>16) % below
	}
}

// bigTree is one with some groups, some of them applied, and with other lines, up to as many as there may be, a few of them marked.
func bigTree(seed int) []api.Line {
	next := dice(seed)
	names := path("f", "g", "h", "*", "groups")[:1+next(5)]
	var t []api.Line
	if seed%4 == 0 {
		t = wide(30+next(30), 1+next(5), next(30))
	}
	for range next(1 + next(150)) {
		var p []string
		switch next(6) {
		case 0:
			p = path("apply", names[next(len(names))])
		case 1, 2:
			p = path("groups", names[next(len(names))])
		}
		for range 1 + next(1+next(6)) {
			p = append(p, path("*", "a", "b", "c", "d", "e", "groups", "apply", "*", "*")[next(8+len(p)%3)])
		}
		t, _ = lines.Add(t, p)
	}
	// Of some trees all groups are there.
	if seed%3 > 0 {
		for _, g := range names {
			t, _ = lines.Add(t, path("groups", g))
		}
	}
	for i := range t {
		if next(10+seed%50) == 0 {
			t[i].Mark = 1 + next(3)
		}
	}
	return t
}

// withGroups are trees of which each has a group, or two, of all kinds, and other lines of all kinds.
func withGroups() [][]api.Line {
	var out [][]api.Line
	deep, few := treesOf(4, 3, path("*", "a"), 0), treesOf(2, 1, path("*", "a", "b"), 0)
	for _, group := range deep {
		for _, explicit := range deep {
			out = append(out, joined(under(group, "groups", "g"), under(nil, "apply", "g"), explicit))
		}
	}
	for _, f := range few {
		for _, g := range few {
			for _, explicit := range few {
				out = append(out, joined(under(f, "groups", "f"), under(g, "groups", "g"), under(nil, "apply", "f"), under(nil, "apply", "g"), explicit))
			}
		}
	}
	return out
}

// each asks all calls of one tree, of which the chapter's words, said again, tell what is to come out.
func each(t *testing.T, x []api.Line) api.Errno {
	t.Helper()
	active := activeAgain(x)
	tells(t, Active, x, treeOfPaths(active))
	tells(t, Explicit, x, treeOfPaths(explicitAgain(active)))
	for _, g := range path("f", "g", "h", "*", "groups", "a") {
		if want, there := pathsAgain(active, g); there {
			found(t, x, g, want)
		} else {
			lacks(t, x, g, api.ErrNone)
		}
	}
	want, fault := expandAgain(active)
	if fault != api.OK {
		refused(t, Expand, x, fault)
		return fault
	}
	tells(t, Expand, x, want)
	follows(t, x, want)
	return api.OK
}

// follows fails, unless P12.3 holds of what came out, and each line of it that is new is the beginning of a path of a group that is applied.
func follows(t *testing.T, x, out []api.Line) {
	t.Helper()
	explicit, _ := Explicit(x)
	active, _ := Active(x)
	var added [][]string
	for _, p := range pathsOf(active) {
		if len(p) == 2 && p[0] == "apply" {
			more, _ := Paths(x, p[1])
			added = append(added, more...)
		}
	}
	for _, p := range pathsOf(explicit) {
		if _, ok := tree.Find(out, p); !ok {
			t.Errorf("%s: %s, without %s", short(x), short(out), short(p))
		}
	}
	for _, p := range pathsOf(out) {
		_, ok := tree.Find(explicit, p)
		if !ok && !slices.ContainsFunc(added, func(q []string) bool { return begins(q, p...) }) {
			t.Errorf("%s: %s, where nobody says %s", short(x), short(out), short(p))
		}
	}
	if !tree.Right(out) {
		t.Errorf("%s: %s, which is no tree", short(x), short(out))
	}
	for _, f := range []call{Active, Explicit, Expand} {
		tells(t, f, out, out)
		tells(t, f, explicit, explicit)
	}
	tells(t, Expand, active, out)
}

// P12.1 to P12.3: of many trees, small ones and big ones, comes out what the chapter's words say, and what follows from them.
func TestEachTree(t *testing.T) {
	many := map[api.Errno]int{}
	for _, trees := range [][][]api.Line{withGroups(), treesOf(4, 2, path("*", "apply", "g", "groups"), 0), treesOf(4, 3, path("a"), 0, 1, 2, 3), treesOf(3, 2, path("", "apply", "groups"), 0, 1), treesOf(3, 1, path("a", "groups"), 0, 1, 2, 3)} {
		for _, x := range trees {
			many[each(t, x)]++
		}
	}
	small := maps.Clone(many)
	for seed := range 2000 {
		many[each(t, bigTree(seed))]++
	}
	if small[api.OK] < 10000 || small[api.ErrNone] < 250 || many[api.OK] < small[api.OK]+300 || many[api.ErrNone] < small[api.ErrNone]+200 || many[api.ErrLong] < 20 {
		t.Errorf("only %v, and of small trees %v", many, small)
	}
}

// alike fails, unless all calls answer the same of two trees; but Paths of one group.
func alike(t *testing.T, x, y []api.Line, but string) {
	t.Helper()
	for _, f := range []call{Explicit, Expand} {
		a, e := f(x)
		b, fault := f(y)
		if e != fault || !slices.Equal(a, b) {
			t.Errorf("%s and %s: %s, %d, and %s, %d", short(x), short(y), short(a), e, short(b), fault)
		}
	}
	for _, g := range path("f", "g", "h", "*", "groups") {
		a, e := Paths(x, g)
		b, fault := Paths(y, g)
		if g != but && (e != fault || !same(a, b)) {
			t.Errorf("%s and %s: %s, %d, and %s, %d", short(x), short(y), short(a), e, short(b), fault)
		}
	}
}

// P12.1, P12.2: a line that is Inactive, and what stands under it, is as if it were not there; a mark Protect turns nothing; a group that is not applied makes no difference.
func TestNoDifference(t *testing.T) {
	gone, groups := 0, 0
	for seed := range 200 {
		x := bigTree(seed)
		active := activeAgain(x)
		for i := range x {
			p, _ := tree.Path(x, i)
			less := slices.Delete(slices.Clone(x), i, tree.End(x, i))
			if x[i].Mark%2 == 1 {
				gone++
				alike(t, x, less, "")
			}
			if (i+seed)%8 == 0 {
				alike(t, withMark(x, i, x[i].Mark^api.Protect), x, "")
			}
			if len(p) != 2 || p[0] != "groups" || slices.ContainsFunc(active, func(q []string) bool { return begins(q, "apply", p[1]) }) {
				continue
			}
			groups++
			alike(t, x, less, p[1])
		}
	}
	if gone < 150 || groups < 100 {
		t.Errorf("only %d lines, and %d groups", gone, groups)
	}
}

// P12.3: a tree without groups and without marks is itself.
func TestItself(t *testing.T) {
	trees := append(treesOf(4, 3, path("*", "a", "b"), 0), chain(16), flat(200), deeper("x", flat(199)), append(flat(184), chain(16)...), list(line(0, forty), line(1, "")), deeper("x", read(t, "groups { g { a; } } apply { g; h; }")))
	for seed := range 300 {
		x, _ := Explicit(bigTree(seed))
		trees = append(trees, x)
	}
	for _, x := range trees {
		for _, f := range []call{Active, Explicit, Expand} {
			tells(t, f, x, x)
		}
	}
}

// spare is a copy of a tree with room behind it.
func spare(t []api.Line) []api.Line { return append(make([]api.Line, 0, len(t)+50), t...) }

// untouched: is it as it was, and all of that room, too?
func untouched(t, was []api.Line) bool {
	return slices.Equal(t, was) && !slices.ContainsFunc(t[len(t):cap(t)], func(l api.Line) bool { return l != api.Line{} })
}

// scribble writes into all lines, and behind them.
func scribble(x []api.Line) {
	x = append(x, line(7, "q"))
	for i := range x {
		x[i] = line(7, "q")
	}
}

// sharing writes into all paths, into each one another word, and behind them, and tells whether two of them share any.
func sharing(paths [][]string) bool {
	for i := range paths {
		paths[i] = append(paths[i], "q")
		for k := range paths[i] {
			paths[i][k] = fmt.Sprint(i)
		}
	}
	for i, p := range paths {
		if slices.ContainsFunc(p, func(w string) bool { return w != fmt.Sprint(i) }) {
			return true
		}
	}
	return false
}

// R1, R3, R4: what a call is handed stays as it was, and what it answers is memory of its own, no list of it shared with another one.
func TestShares(t *testing.T) {
	trees := [][]api.Line{nil, chain(16), flat(200), flat(201), chain(17), allMarked(flat(200), 1), wide(7, 1, 186), wide(95, 90, 0), wide(10, 10, 10)}
	for seed := range 300 {
		trees = append(trees, bigTree(seed))
	}
	for _, was := range trees {
		x := spare(was)
		for _, f := range []call{Active, Explicit, Expand} {
			got, e := f(x)
			kept := slices.Clone(got)
			scribble(got)
			again, fault := f(x)
			if !untouched(x, was) || e != fault || !slices.Equal(again, kept) {
				t.Errorf("%s: something was written into", short(was))
			}
		}
		for _, g := range path("f", "g", "*") {
			got, e := Paths(x, g)
			if sharing(got) {
				t.Errorf("%s: two paths share their words", short(was))
			}
			again, fault := Paths(x, g)
			if !untouched(x, was) || e != fault || len(again) != len(got) || slices.ContainsFunc(again, func(p []string) bool { return slices.Contains(p, "0") }) {
				t.Errorf("%s: something was written into", short(was))
			}
		}
	}
}

// P1: long lists and long words end, too, and so does a tree with as many paths as may be.
func TestEnds(t *testing.T) {
	long := make([]api.Line, 1000000)
	for i := range long {
		long[i] = line(i, "groups")
	}
	for _, x := range [][]api.Line{long, slices.Repeat(flat(100), 10000), list(line(0, strings.Repeat("x", 1<<24)))} {
		for _, f := range []call{Active, Explicit, Expand} {
			refused(t, f, x, api.ErrArg)
		}
		lacks(t, x, "g", api.ErrArg)
	}
	lacks(t, wide(95, 90, 0), strings.Repeat("g", 1<<24), api.ErrNone)
	// 48 times 99 paths, none of which is inherited.
	var closed []api.Line
	for i := range 48 {
		closed = append(closed, deeper(flatWord(i), flat(1))...)
	}
	x := joined(closed, under(deeper("*", single(99)), "groups", "g"), under(nil, "apply", "g"))
	tells(t, Expand, x, closed)
	if all, e := Paths(x, "g"); e != api.OK || len(all) != 48*99 {
		t.Errorf("%d paths, %d", len(all), e)
	}
}

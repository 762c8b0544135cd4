package edit

import (
	"fmt"
	"maps"
	"math"
	"slices"
	"strings"
	"testing"

	"ferryslip/api"
	"ferryslip/tree"
)

var (
	forty    = strings.Repeat("a", api.MaxWord)
	fortyOne = strings.Repeat("a", api.MaxWord+1)
)

// none is a Word that no line has.
const none = "none"

// line is one without marks.
func line(depth int, w string) api.Line { return api.Line{Depth: depth, Word: w} }

// held is one that is Protect.
func held(depth int, w string) api.Line { return api.Line{Depth: depth, Word: w, Mark: api.Protect} }

// off is one that is Inactive.
func off(depth int, w string) api.Line { return api.Line{Depth: depth, Word: w, Mark: api.Inactive} }

func list(t ...api.Line) []api.Line { return t }

func path(words ...string) []string { return words }

// xs is a path of n words.
func xs(n int) []string { return slices.Repeat(path("x"), n) }

// chain has n lines, each under the one ahead.
func chain(n int) []api.Line {
	var t []api.Line
	for i := range n {
		t = append(t, line(i, "x"))
	}
	return t
}

// chainEnd is chain, its last line of another Word.
func chainEnd(n int, w string) []api.Line { return append(chain(n-1), line(n-1, w)) }

// flat has n lines of Depth 0, the first ones of them aa, ab and ac.
func flat(n int) []api.Line {
	var t []api.Line
	for i := range n {
		t = append(t, line(0, string([]byte{'a' + byte(i/26), 'a' + byte(i%26)})))
	}
	return t
}

// deeper puts lines under one.
func deeper(w string, t []api.Line) []api.Line {
	out := list(line(0, w))
	for _, l := range t {
		l.Depth++
		out = append(out, l)
	}
	return out
}

// marked is t with a mark at one line.
func marked(t []api.Line, i, mark int) []api.Line {
	t = slices.Clone(t)
	t[i].Mark = mark
	return t
}

// inner has a part that is Protect within one that is not, and the latter has parts on both sides.
func inner() []api.Line {
	return list(line(0, "a"), line(0, "b"), line(1, "c"), line(1, "d"), held(2, "e"), line(3, "f"), line(1, "g"), line(0, "h"))
}

// noTrees are lists of lines that are no tree, each for one cause.
func noTrees() [][]api.Line {
	return [][]api.Line{
		{line(1, "a")}, {line(-1, "a")}, {line(math.MinInt, "a")}, {line(math.MaxInt, "a")}, {line(16, "a")}, chain(17),
		{line(0, "a"), line(2, "b")}, {line(0, "a"), line(-1, "b")}, {line(0, "a"), line(math.MaxInt, "b")},
		{line(0, fortyOne)}, {held(0, "a"), line(1, fortyOne)}, {line(0, "a"), line(0, strings.Repeat("b", 100000))},
		{{Word: "a", Mark: 4}}, {{Word: "a", Mark: 6}}, {{Word: "a", Mark: -1}}, {{Word: "a", Mark: math.MinInt}}, {held(0, "a"), {Depth: 1, Word: "b", Mark: 4}},
		{line(0, "b"), held(0, "a")}, {held(0, "a"), line(0, "a")}, {line(0, ""), line(0, "")},
		{held(0, "a"), line(1, "b"), line(2, "x"), line(1, "b")}, {line(0, "a"), line(1, "b"), line(0, "a")},
		flat(201), append(flat(200), line(1, "a")), make([]api.Line, 201),
	}
}

// call is one of the calls that turn a tree; where it needs no more than a path its other arguments are good ones.
type call func(t []api.Line, p []string) ([]api.Line, api.Errno)

func marks(bit int, on bool) call {
	return func(t []api.Line, p []string) ([]api.Line, api.Errno) { return Mark(t, p, bit, on) }
}

func renames(w string) call {
	return func(t []api.Line, p []string) ([]api.Line, api.Errno) { return Rename(t, p, w) }
}

func copies(w string) call {
	return func(t []api.Line, p []string) ([]api.Line, api.Errno) { return Copy(t, p, w) }
}

// finders are the calls that need a line of the path.
func finders() map[string]call {
	return map[string]call{"Delete": Delete, "on 1": marks(1, true), "off 1": marks(1, false), "on 2": marks(2, true), "off 2": marks(2, false), "Rename": renames("new"), "Copy": copies("new")}
}

// all are all calls that turn a tree.
func all() map[string]call {
	calls := finders()
	calls["Set"] = Set
	return calls
}

// short writes lines for a test's report, as far as anybody reads on.
func short(x []api.Line) string { return fmt.Sprintf("%.300s", fmt.Sprint(x)) }

// done fails, unless a call tells that tree.
func done(t *testing.T, f call, x []api.Line, p []string, want []api.Line) {
	t.Helper()
	if y, e := f(x, p); e != api.OK || !slices.Equal(y, want) {
		t.Errorf("%s and %.80q: %s, %d; it should be %s", short(x), p, short(y), e, short(want))
	}
}

// refused fails, unless a call tells that error, and the tree as it was.
func refused(t *testing.T, f call, x []api.Line, p []string, want api.Errno) {
	t.Helper()
	if y, e := f(x, p); e != want || !slices.Equal(y, x) {
		t.Errorf("%s and %.80q: %s, %d; it should be the same lines, %d", short(x), p, short(y), e, want)
	}
}

func locked(t *testing.T, x []api.Line, p []string, is, above bool) {
	t.Helper()
	if got := Locked(x, p); got != is {
		t.Errorf("Locked: %s and %.80q: %v", short(x), p, got)
	}
	if got := Above(x, p); got != above {
		t.Errorf("Above: %s and %.80q: %v", short(x), p, got)
	}
}

// P7.1: paths that are there, as far as a line that is Protect, and behind it.
func TestLocked(t *testing.T) {
	x := inner()
	for _, p := range [][]string{{"a"}, {"b"}, {"b", "c"}, {"b", "d"}, {"b", "g"}, {"h"}} {
		locked(t, x, p, false, false)
	}
	locked(t, x, path("b", "d", "e"), true, false)
	locked(t, x, path("b", "d", "e", "f"), true, true)
	locked(t, list(held(0, "a")), path("a"), true, false)
	locked(t, list(held(0, "a"), held(1, "b")), path("a", "b"), true, true)
	locked(t, list(line(0, "a"), held(1, "b")), path("a"), false, false)
}

// P7.1: beginnings count as far as they are there.
func TestLockedNotThere(t *testing.T) {
	x := inner()
	locked(t, x, path("b", "d", "e", "z"), true, true)
	locked(t, x, path("b", "d", "e", "f", "z"), true, true)
	locked(t, x, path("b", "d", "e", "z", "f", "z"), true, true)
	locked(t, x, path("b", "d", "e", fortyOne), true, true)
	locked(t, x, append(path("b", "d", "e"), xs(100)...), true, true)
	for _, p := range [][]string{{"z"}, {"b", "z"}, {"b", "d", "z"}, {"b", "d", "z", "f"}, {"d", "e"}, {"e"}, {"b", "e"}, {"b", "z", "e"}, {"b", "c", "e"}, {"a", "d", "e"}, {"", "b"},
		{"b", "d", "E"}, {"b", "d", "ee"}, {fortyOne}, xs(16), xs(17), xs(100000)} {
		locked(t, x, p, false, false)
	}
}

// P7.1: an empty tree, an empty path, and lines that are no tree, though a line of the path is Protect there.
func TestLockedNothing(t *testing.T) {
	for _, p := range [][]string{nil, {}, {"a"}, {"", ""}, xs(16), xs(17)} {
		locked(t, nil, p, false, false)
		locked(t, list(), p, false, false)
	}
	for _, x := range [][]api.Line{inner(), {held(0, "")}, {held(0, "a"), held(1, "a")}} {
		locked(t, x, nil, false, false)
		locked(t, x, path(), false, false)
	}
	for _, x := range noTrees() {
		for _, p := range [][]string{nil, {"a"}, {"a", "b"}, {x[0].Word}, {x[0].Word, "a"}, xs(16)} {
			locked(t, x, p, false, false)
		}
	}
	x := chain(17)
	x[0].Mark = api.Protect
	locked(t, x, xs(2), false, false)
	locked(t, x[:16], xs(2), true, true)
}

// P7.1: of the marks it is Protect that counts, and Inactive that does not.
func TestLockedMarks(t *testing.T) {
	for m := range 4 {
		is := m >= 2
		x := list(line(0, "a"), api.Line{Depth: 1, Word: "b", Mark: m}, line(2, "c"))
		locked(t, x, path("a"), false, false)
		locked(t, x, path("a", "b"), is, false)
		locked(t, x, path("a", "b", "c"), is, is)
		locked(t, x, path("a", "b", "z"), is, is)
	}
}

// P7.1: at each Depth, up to the greatest one.
func TestLockedDeep(t *testing.T) {
	for i := range api.MaxDepth {
		x := marked(chain(16), i, 2)
		for n := 1; n <= 18; n++ {
			locked(t, x, xs(n), n > i, n > i+1)
			locked(t, x, append(xs(n-1), "y"), n > i+1, n > i+1)
		}
	}
}

// P7.2: Set, of what is not there, of what is there in part, and of what is there.
func TestSet(t *testing.T) {
	done(t, Set, nil, path("a"), list(line(0, "a")))
	done(t, Set, nil, path("a", "b"), list(line(0, "a"), line(1, "b")))
	done(t, Set, nil, xs(16), chain(16))
	done(t, Set, nil, path(forty, forty), list(line(0, forty), line(1, forty)))
	x := list(line(0, "b"), off(1, "d"), line(0, "c"))
	done(t, Set, x, path("b"), x)
	done(t, Set, x, path("b", "d"), x)
	done(t, Set, x, path("b", "d", "e"), list(line(0, "b"), off(1, "d"), line(2, "e"), line(0, "c")))
	done(t, Set, x, path("b", "c", "e"), list(line(0, "b"), line(1, "c"), line(2, "e"), off(1, "d"), line(0, "c")))
	done(t, Set, x, path("a"), list(line(0, "a"), line(0, "b"), off(1, "d"), line(0, "c")))
	done(t, Set, x, path("d", ""), list(line(0, "b"), off(1, "d"), line(0, "c"), line(0, "d"), line(1, "")))
	done(t, Set, flat(199), path("z"), append(flat(199), line(0, "z")))
	done(t, Set, flat(200), path("aa"), flat(200))
	done(t, Set, append(flat(184), chain(16)...), xs(16), append(flat(184), chain(16)...))
}

// P7.2: Set of what is locked, whether it is there or not; and of what stands beside it, or holds it.
func TestSetLocked(t *testing.T) {
	x := inner()
	for _, p := range [][]string{{"b", "d", "e"}, {"b", "d", "e", "f"}, {"b", "d", "e", "z"}, {"b", "d", "e", "f", "z"}, append(path("b", "d", "e"), xs(13)...)} {
		refused(t, Set, x, p, api.ErrProtect)
	}
	for _, p := range [][]string{{"b"}, {"b", "d"}, {"b", "c"}, {"a"}} {
		done(t, Set, x, p, x)
	}
	done(t, Set, x, path("b", "d", "f"), slices.Insert(inner(), 6, line(2, "f")))
	done(t, Set, x, path("b", "d", "a", "e"), slices.Insert(inner(), 4, line(2, "a"), line(3, "e")))
	done(t, Set, x, path("e"), slices.Insert(inner(), 7, line(0, "e")))
	refused(t, Set, list(held(0, "a")), path("a", "b"), api.ErrProtect)
	refused(t, Set, list(held(0, "a")), path("a"), api.ErrProtect)
	refused(t, Set, marked(chain(16), 15, 2), xs(16), api.ErrProtect)
	refused(t, Set, marked(flat(200), 199, 3), path(flat(200)[199].Word), api.ErrProtect)
}

// P7.2: each of layer 6's errors goes ahead of ErrProtect.
func TestSetErrors(t *testing.T) {
	for _, x := range [][]api.Line{nil, chain(1), marked(chain(1), 0, 2), marked(flat(200), 0, 2)} {
		for _, p := range [][]string{nil, {}, {fortyOne}, {"x", fortyOne}, {"aa", fortyOne}, append(xs(17), fortyOne)} {
			refused(t, Set, x, p, api.ErrArg)
		}
		for _, p := range [][]string{xs(17), xs(1000), append(path("aa"), xs(16)...)} {
			refused(t, Set, x, p, api.ErrDeep)
		}
	}
	full := marked(flat(200), 0, 2)
	refused(t, Set, full, path("aa", "z"), api.ErrLong)
	refused(t, Set, full, path("z"), api.ErrLong)
	refused(t, Set, full, append(path("aa"), xs(15)...), api.ErrLong)
	refused(t, Set, full, path("aa"), api.ErrProtect)
	refused(t, Set, full[:199], path("aa", "z"), api.ErrProtect)
	refused(t, Set, full[:199], path("aa", "z", "z"), api.ErrLong)
	refused(t, Set, flat(185), xs(16), api.ErrLong)
}

// P7.1: lines that are no tree, and an empty path, at every call, whatever its other arguments.
func TestWrong(t *testing.T) {
	for _, f := range all() {
		for _, x := range noTrees() {
			for _, p := range [][]string{nil, {"a"}, {"a", "b"}, {x[0].Word}, {fortyOne}, {"z"}, xs(16), xs(17)} {
				refused(t, f, x, p, api.ErrArg)
			}
		}
		for _, x := range [][]api.Line{nil, {}, {held(0, "")}, inner(), chain(16), flat(200)} {
			refused(t, f, x, nil, api.ErrArg)
			refused(t, f, x, path(), api.ErrArg)
		}
	}
}

// P7.2, P7.3: no line of that path; that goes ahead of ErrProtect.
func TestNone(t *testing.T) {
	for _, f := range finders() {
		refused(t, f, nil, path("a"), api.ErrNone)
		refused(t, f, nil, path(""), api.ErrNone)
		for _, x := range [][]api.Line{inner(), marked(inner(), 1, 2), marked(inner(), 1, 1)} {
			for _, p := range [][]string{{"z"}, {""}, {"B"}, {"c"}, {"b", "b"}, {"b", "c", "z"}, {"b", "d", "z"}, {"b", "d", "e", "z"}, {"b", "d", "e", "f", "z"}, {"b", "d", "e", "f", ""}, {"new"}, {"b", "new"},
				{fortyOne}, {"b", fortyOne}, {strings.Repeat("b", 100000)}, xs(16), xs(17), append(path("b", "d", "e", "f"), xs(13)...)} {
				refused(t, f, x, p, api.ErrNone)
			}
		}
		refused(t, f, chain(16), xs(17), api.ErrNone)
		refused(t, f, chain(16), append(xs(15), "y"), api.ErrNone)
		refused(t, f, flat(200), path("zz"), api.ErrNone)
	}
}

// P7.2: Delete of a part of one line and of many, at each place among its siblings; the line above it stays.
func TestDelete(t *testing.T) {
	done(t, Delete, list(line(0, "a")), path("a"), nil)
	done(t, Delete, list(line(0, "a"), line(1, "b"), off(2, "c")), path("a"), nil)
	done(t, Delete, list(line(0, "a"), line(1, "b"), off(2, "c")), path("a", "b"), list(line(0, "a")))
	done(t, Delete, list(line(0, "")), path(""), nil)
	done(t, Delete, list(line(0, forty), line(1, forty)), path(forty, forty), list(line(0, forty)))
	x := list(line(0, "a"), line(1, "b"), off(0, "c"), line(1, "b"), line(2, "d"), line(2, "e"), line(2, "f"), line(1, "g"), line(0, "h"), line(1, "b"))
	done(t, Delete, x, path("a"), x[2:])
	done(t, Delete, x, path("c"), slices.Concat(x[:2], x[8:]))
	done(t, Delete, x, path("h"), x[:8])
	done(t, Delete, x, path("a", "b"), slices.Concat(x[:1], x[2:]))
	done(t, Delete, x, path("c", "b"), slices.Concat(x[:3], x[7:]))
	done(t, Delete, x, path("c", "b", "d"), slices.Concat(x[:4], x[5:]))
	done(t, Delete, x, path("c", "b", "e"), slices.Concat(x[:5], x[6:]))
	done(t, Delete, x, path("c", "b", "f"), slices.Concat(x[:6], x[7:]))
	done(t, Delete, x, path("c", "g"), slices.Concat(x[:7], x[8:]))
	for n := 1; n <= api.MaxDepth; n++ {
		done(t, Delete, chain(16), xs(n), chain(n-1))
	}
	done(t, Delete, flat(200), path("aa"), flat(200)[1:])
	done(t, Delete, flat(200), path(flat(200)[199].Word), flat(199))
	done(t, Delete, deeper("x", flat(199)), path("x"), nil)
}

// P7.2, P7.3: parts that are locked by their line, by a line above, and by a line in them.
func TestPartLocked(t *testing.T) {
	for _, f := range []call{Delete, renames("new"), renames("a"), renames("e"), renames(""), renames("z")} {
		for _, p := range [][]string{{"b"}, {"b", "d"}, {"b", "d", "e"}, {"b", "d", "e", "f"}} {
			refused(t, f, inner(), p, api.ErrProtect)
		}
		for i := range api.MaxDepth {
			for n := 1; n <= api.MaxDepth; n++ {
				refused(t, f, marked(chain(16), i, 2+i%2), xs(n), api.ErrProtect)
			}
		}
		refused(t, f, list(held(0, "a")), path("a"), api.ErrProtect)
		refused(t, f, list(line(0, "a"), line(1, "b"), line(2, "c"), line(1, "d"), held(2, "e"), line(0, "f")), path("a"), api.ErrProtect)
		refused(t, f, marked(flat(200), 199, 2), path(flat(200)[199].Word), api.ErrProtect)
	}
}

// P7.2: what stands beside a part that is locked, or is Inactive, may go.
func TestDeleteNotLocked(t *testing.T) {
	x := inner()
	done(t, Delete, x, path("a"), x[1:])
	done(t, Delete, x, path("b", "c"), slices.Delete(inner(), 2, 3))
	done(t, Delete, x, path("b", "g"), slices.Delete(inner(), 6, 7))
	done(t, Delete, x, path("h"), x[:7])
	done(t, Delete, list(held(0, "a"), line(0, "b"), held(0, "c")), path("b"), list(held(0, "a"), held(0, "c")))
	done(t, Delete, list(off(0, "a"), off(1, "b")), path("a", "b"), list(off(0, "a")))
	done(t, Delete, list(off(0, "a"), off(1, "b")), path("a"), nil)
}

// P7.2: each mark, on and off, from each Mark on; and no other line, and no other mark, is another one.
func TestMark(t *testing.T) {
	for i := range 4 {
		for m := range 4 {
			x := list(off(0, "a"), line(1, "b"), line(2, "c"), line(0, "d"))
			p := [][]string{{"a"}, {"a", "b"}, {"a", "b", "c"}, {"d"}}[i]
			x[i].Mark = m
			done(t, marks(2, true), x, p, marked(x, i, m|2))
			done(t, marks(2, false), x, p, marked(x, i, m&1))
			if m < 2 {
				done(t, marks(1, true), x, p, marked(x, i, 1))
				done(t, marks(1, false), x, p, marked(x, i, 0))
			} else {
				refused(t, marks(1, true), x, p, api.ErrProtect)
				refused(t, marks(1, false), x, p, api.ErrProtect)
			}
		}
	}
}

// P7.2: one mark behind the other, each of them twice.
func TestMarkTwice(t *testing.T) {
	x := list(line(0, "a"))
	for i, c := range []struct {
		bit  int
		on   bool
		want int
		e    api.Errno
	}{
		{1, false, 0, 0}, {2, false, 0, 0}, {1, true, 1, 0}, {1, true, 1, 0}, {1, false, 0, 0}, {1, false, 0, 0}, {1, true, 1, 0}, {2, true, 3, 0}, {2, true, 3, 0},
		{1, false, 3, api.ErrProtect}, {1, true, 3, api.ErrProtect}, {2, false, 1, 0}, {2, false, 1, 0}, {1, false, 0, 0}, {2, true, 2, 0}, {1, true, 2, api.ErrProtect}, {2, false, 0, 0},
	} {
		y, e := Mark(x, path("a"), c.bit, c.on)
		if e != c.e || !slices.Equal(y, marked(x, 0, c.want)) {
			t.Errorf("%d: %v, %d", i, y, e)
		}
		x = y
	}
}

// P7.2: locked from above, no mark may be another one, though nothing would be; a lock in the part, or beside it, is none.
func TestMarkLocked(t *testing.T) {
	for _, bit := range []int{1, 2} {
		for _, on := range []bool{true, false} {
			f := marks(bit, on)
			refused(t, f, inner(), path("b", "d", "e", "f"), api.ErrProtect)
			for m := range 4 {
				refused(t, f, list(held(0, "a"), api.Line{Depth: 1, Word: "b", Mark: m}), path("a", "b"), api.ErrProtect)
				refused(t, f, list(api.Line{Word: "a", Mark: 3}, line(1, "b"), api.Line{Depth: 2, Word: "c", Mark: m}), path("a", "b", "c"), api.ErrProtect)
			}
			want := 0
			if on {
				want = bit
			}
			done(t, f, inner(), path("b"), marked(inner(), 1, want))
			done(t, f, inner(), path("b", "d"), marked(inner(), 3, want))
			done(t, f, inner(), path("b", "c"), marked(inner(), 2, want))
			done(t, f, chain(16), xs(16), marked(chain(16), 15, want))
			done(t, f, flat(200), path("aa"), marked(flat(200), 0, want))
		}
	}
	refused(t, marks(1, true), inner(), path("b", "d", "e"), api.ErrProtect)
	done(t, marks(2, true), inner(), path("b", "d", "e"), inner())
	done(t, marks(2, false), inner(), path("b", "d", "e"), marked(inner(), 4, 0))
}

// P7.2: a bit that is none; that goes ahead of all else.
func TestMarkWrongBit(t *testing.T) {
	for _, bit := range []int{0, 3, 4, 5, 6, -1, -2, -3, 8, 256, 257, 258, 1 << 32, 1<<32 + 1, 1<<32 + 2, math.MaxInt, math.MinInt} {
		for _, on := range []bool{true, false} {
			for _, p := range [][]string{{"a"}, {"b"}, {"b", "d", "e"}, {"b", "d", "e", "f"}, {"z"}, {"b", "d", "e", "z"}, nil} {
				refused(t, marks(bit, on), inner(), p, api.ErrArg)
				refused(t, marks(bit, on), nil, p, api.ErrArg)
			}
			refused(t, marks(bit, on), chain(17), xs(1), api.ErrArg)
		}
	}
}

// P7.3: Rename, to each place among its siblings, at each Depth, with its marks and what stands under it.
func TestRename(t *testing.T) {
	words := path("b", "d", "f")
	for _, over := range []int{0, 1, 15} {
		for i, w := range words {
			for _, to := range path("", "a", "c", "e", "g", "bb", "B", "\xff", forty, strings.Repeat("\xff", 40), "inactive:", "{") {
				if over+1 == api.MaxDepth {
					done(t, renames(to), siblings(over, words, none), append(xs(over), w), siblings(over, replaced(words, w, to), none))
					continue
				}
				done(t, renames(to), siblings(over, words, w), append(xs(over), w), siblings(over, replaced(words, w, to), to))
				done(t, renames(to), siblings(over, words, words[(i+1)%3]), append(xs(over), w), siblings(over, replaced(words, w, to), words[(i+1)%3]))
			}
		}
	}
}

// siblings has as many lines x as over says, each under the one ahead, then lines of these Words, and under the one of the Word with, if there is one, three lines.
func siblings(over int, words []string, with string) []api.Line {
	out := chain(over)
	for _, w := range words {
		if w == with {
			out = append(out, off(over, w), line(over+1, "k"), off(over+1, "l"), line(over+1, "m"))
		} else {
			out = append(out, line(over, w))
		}
	}
	return out
}

// replaced has one word for another one, in order.
func replaced(words []string, w, to string) []string {
	out := slices.Clone(words)
	out[slices.Index(words, w)] = to
	slices.Sort(out)
	return out
}

// P7.3: Rename of the only line, of parts beside one that is locked, and of as many lines as there may be.
func TestRenameEdges(t *testing.T) {
	done(t, renames("b"), list(line(0, "a")), path("a"), list(line(0, "b")))
	done(t, renames(""), list(off(0, "a"), line(1, "b")), path("a"), list(off(0, ""), line(1, "b")))
	done(t, renames("a"), list(line(0, "")), path(""), list(line(0, "a")))
	done(t, renames(forty), list(line(0, "b"), line(1, "a")), path("b", "a"), list(line(0, "b"), line(1, forty)))
	done(t, renames("b"), list(line(0, "a"), line(1, "b")), path("a"), list(line(0, "b"), line(1, "b")))
	done(t, renames("a"), list(line(0, "a"), line(1, "b")), path("a", "b"), list(line(0, "a"), line(1, "a")))
	for n := 1; n <= api.MaxDepth; n++ {
		done(t, renames("y"), chain(n), xs(n), chainEnd(n, "y"))
		done(t, renames("y"), chain(16), xs(n), slices.Concat(chainEnd(n, "y"), chain(16)[n:]))
	}
	done(t, renames("z"), flat(200), path("aa"), append(flat(200)[1:], line(0, "z")))
	done(t, renames("a"), flat(200), path(flat(200)[199].Word), append(list(line(0, "a")), flat(199)...))
	done(t, renames("x"), deeper("a", flat(199)), path("a"), deeper("x", flat(199)))
	done(t, renames("z"), inner(), path("a"), append(inner()[1:], line(0, "z")))
	done(t, renames("f"), inner(), path("b", "c"), list(line(0, "a"), line(0, "b"), line(1, "d"), held(2, "e"), line(3, "f"), line(1, "f"), line(1, "g"), line(0, "h")))
	done(t, renames("ab"), inner(), path("h"), slices.Insert(inner()[:7], 1, line(0, "ab")))
}

// P7.3: Copy, to each place among its siblings, at each Depth, with its marks and what stands under it.
func TestCopy(t *testing.T) {
	words := path("b", "d", "f")
	for _, over := range []int{0, 1, 15} {
		for _, w := range words {
			for _, to := range path("", "a", "c", "e", "g", "bb", "B", "\xff", forty, strings.Repeat("\xff", 40), "inactive:", "{") {
				more := slices.Sorted(slices.Values(append(slices.Clone(words), to)))
				done(t, copies(to), siblings(over, words, none), append(xs(over), w), siblings(over, more, none))
			}
		}
	}
	x := list(line(0, "a"), api.Line{Depth: 1, Word: "c", Mark: 3}, off(2, "d"), held(3, "e"), line(2, "f"), line(1, "g"), line(0, "h"))
	twice := func(w string) []api.Line {
		return list(api.Line{Depth: 1, Word: w, Mark: 3}, off(2, "d"), held(3, "e"), line(2, "f"))
	}
	done(t, copies("b"), x, path("a", "c"), slices.Concat(x[:1], twice("b"), x[1:]))
	done(t, copies("e"), x, path("a", "c"), slices.Concat(x[:5], twice("e"), x[5:]))
	done(t, copies("z"), x, path("a", "c"), slices.Concat(x[:6], twice("z"), x[6:]))
	done(t, copies("d"), x, path("a", "g"), slices.Concat(x[:5], list(line(1, "d")), x[5:]))
	done(t, copies("b"), x, path("a"), slices.Concat(x[:6], list(line(0, "b")), x[1:6], x[6:]))
	done(t, copies(""), x, path("a"), slices.Concat(list(line(0, "")), x[1:6], x))
}

// P7.3: Copy of the only line, of what is locked by its own line or by one in it, and of as many lines as there may be.
func TestCopyEdges(t *testing.T) {
	for m := range 4 {
		done(t, copies("b"), list(api.Line{Word: "a", Mark: m}), path("a"), list(api.Line{Word: "a", Mark: m}, api.Line{Word: "b", Mark: m}))
		done(t, copies(""), list(api.Line{Word: "a", Mark: m}, line(1, "b")), path("a"), list(api.Line{Word: "", Mark: m}, line(1, "b"), api.Line{Word: "a", Mark: m}, line(1, "b")))
		done(t, copies("b"), list(line(0, "a"), api.Line{Depth: 1, Word: "b", Mark: m}), path("a"), list(line(0, "a"), api.Line{Depth: 1, Word: "b", Mark: m}, line(0, "b"), api.Line{Depth: 1, Word: "b", Mark: m}))
	}
	done(t, copies("ee"), inner(), path("b", "d", "e"), slices.Insert(inner(), 6, held(2, "ee"), line(3, "f")))
	done(t, copies("a"), inner(), path("b", "d"), slices.Insert(inner(), 2, line(1, "a"), held(2, "e"), line(3, "f")))
	done(t, copies("z"), inner(), path("a"), append(inner(), line(0, "z")))
	for n := 1; n <= api.MaxDepth; n++ {
		done(t, copies("y"), chain(16), xs(n), slices.Concat(chain(16), list(line(n-1, "y")), chain(16)[n:]))
		done(t, copies("w"), chain(16), xs(n), slices.Concat(chain(n-1), list(line(n-1, "w")), chain(16)[n:], chain(16)[n-1:]))
	}
	done(t, copies("z"), flat(199), path("aa"), append(flat(199), line(0, "z")))
	done(t, copies("y"), deeper("x", flat(99)), path("x"), slices.Concat(deeper("x", flat(99)), deeper("y", flat(99))))
}

// P7.3: Copy of what is locked from above.
func TestCopyLocked(t *testing.T) {
	for _, w := range path("", "a", "z", "f", "b", forty) {
		refused(t, copies(w), inner(), path("b", "d", "e", "f"), api.ErrProtect)
		refused(t, copies(w), list(held(0, "a"), line(1, "b")), path("a", "b"), api.ErrProtect)
		refused(t, copies(w), list(held(0, "a"), line(1, "b"), off(2, "c")), path("a", "b", "c"), api.ErrProtect)
		refused(t, copies(w), list(held(0, "a"), held(1, "b")), path("a", "b"), api.ErrProtect)
		refused(t, copies(w), marked(chain(16), 14, 3), xs(16), api.ErrProtect)
	}
}

// P7.3: as many lines as there may be, and one more.
func TestCopyLong(t *testing.T) {
	for _, w := range path("", "ab ", "z") {
		refused(t, copies(w), flat(200), path("aa"), api.ErrLong)
		refused(t, copies(w), flat(200), path("ac"), api.ErrLong)
		refused(t, copies(w), deeper("x", flat(100)), path("x"), api.ErrLong)
		refused(t, copies(w), deeper("x", flat(199)), path("x"), api.ErrLong)
		refused(t, copies(w), deeper("x", flat(199)), path("x", "aa"), api.ErrLong)
		refused(t, copies(w), append(flat(185), chain(15)...), xs(15), api.ErrLong)
		refused(t, copies(w), append(flat(184), chain(16)...), xs(1), api.ErrLong)
		refused(t, copies(w), append(flat(169), chain(16)...), xs(1), api.ErrLong)
		done(t, copies("y"), append(flat(168), chain(16)...), xs(1), slices.Concat(flat(168), chain(16), list(line(0, "y")), chain(16)[1:]))
	}
}

// P7.3: the Word of a sibling, ahead or behind, and the line's own one.
func TestThere(t *testing.T) {
	x := list(line(0, ""), line(0, "a"), line(1, "b"), off(1, "c"), line(2, "e"), line(1, "d"), line(0, forty))
	for _, f := range []func(string) call{renames, copies} {
		for _, w := range path("b", "c", "d") {
			for _, v := range path("b", "c", "d") {
				refused(t, f(w), x, path("a", v), api.ErrThere)
			}
		}
		for _, w := range path("", "a", forty) {
			for _, v := range path("", "a", forty) {
				refused(t, f(w), x, path(v), api.ErrThere)
			}
		}
		refused(t, f("e"), x, path("a", "c", "e"), api.ErrThere)
		refused(t, f("x"), chain(16), xs(16), api.ErrThere)
		refused(t, f("aa"), flat(200), path("ab"), api.ErrThere)
		refused(t, f("ab"), flat(200), path("ab"), api.ErrThere)
		refused(t, f("a"), list(line(0, "a")), path("a"), api.ErrThere)
		// A Word that stands elsewhere is no sibling's.
		for _, w := range path("e", "a", "", forty) {
			if _, e := f(w)(x, path("a", "b")); e != api.OK {
				t.Errorf("%q: %d", w, e)
			}
		}
	}
	refused(t, copies("a"), list(held(0, "a")), path("a"), api.ErrThere)
	refused(t, copies("b"), list(held(0, "a"), held(0, "b")), path("a"), api.ErrThere)
}

// P7.3: of several errors the one that is named first.
func TestErrorsInOrder(t *testing.T) {
	x := marked(list(line(0, "a"), line(1, "b"), line(2, "c"), line(1, "d")), 1, 2)
	for _, f := range []func(string) call{renames, copies} {
		for _, w := range path(fortyOne, strings.Repeat("\xff", 41), strings.Repeat("b", 100000)) {
			for _, p := range [][]string{{"a"}, {"a", "b", "c"}, {"z"}, {"a", "b", "z"}, nil} {
				refused(t, f(w), x, p, api.ErrArg)
			}
			refused(t, f(w), nil, path("a"), api.ErrArg)
			refused(t, f(w), flat(200), path("aa"), api.ErrArg)
		}
		refused(t, f("c"), x, path("a", "b", "z"), api.ErrNone)
		refused(t, f("b"), x, path("z", "b"), api.ErrNone)
		refused(t, f("aa"), flat(200), path("z"), api.ErrNone)
		refused(t, f("c"), x, path("a", "b", "c"), api.ErrProtect)
		refused(t, f("aa"), flat(200), path("aa"), api.ErrThere)
		refused(t, f("ab"), flat(200), path("aa"), api.ErrThere)
	}
	refused(t, renames("d"), x, path("a", "b"), api.ErrProtect)
	refused(t, renames("a"), x, path("a"), api.ErrProtect)
	refused(t, copies("d"), x, path("a", "b"), api.ErrThere)
	full := marked(deeper("x", flat(199)), 0, 2)
	refused(t, copies("z"), full, path("x", "aa"), api.ErrProtect)
	refused(t, copies("ab"), full, path("x", "aa"), api.ErrProtect)
	refused(t, copies("z"), full, path("x"), api.ErrLong)
	refused(t, copies("x"), full, path("x"), api.ErrThere)
	refused(t, Delete, x, path("a", "b", "z"), api.ErrNone)
	refused(t, marks(1, true), x, path("a", "b", "z"), api.ErrNone)
}

// P7.3: a Rename, and one back, change nothing; a Copy, and a Delete of it, neither.
func TestThereAndBack(t *testing.T) {
	x := list(line(0, "b"), off(1, "c"), line(2, "d"), line(1, "e"), line(0, "f"))
	for _, w := range path("", "a", "cc", "z", forty) {
		for _, p := range [][]string{{"b"}, {"b", "c"}, {"b", "c", "d"}, {"b", "e"}, {"f"}} {
			to := append(slices.Clone(p[:len(p)-1]), w)
			y, _ := Rename(x, p, w)
			done(t, renames(p[len(p)-1]), y, to, x)
			y, _ = Copy(x, p, w)
			done(t, Delete, y, to, x)
			y, _ = Mark(x, p, api.Protect, true)
			done(t, marks(2, false), y, p, x)
		}
	}
}

// key makes one text of a path; no word of the trees that are made for it has a |.
func key(p []string) string { return strings.Join(p, "|") + "|" }

// pathsOf tells the Mark of each path.
func pathsOf(t []api.Line) map[string]int {
	paths := map[string]int{}
	for i, l := range t {
		p, _ := tree.Path(t, i)
		paths[key(p)] = l.Mark
	}
	return paths
}

// lockedAgain, and all that follow up to editAgain, say the chapter's words again, of paths with their marks.
func lockedAgain(paths map[string]int, p []string) bool {
	for k, mark := range paths {
		if mark >= api.Protect && strings.HasPrefix(key(p), k) {
			return true
		}
	}
	return false
}

func partLockedAgain(paths map[string]int, p []string) bool {
	for k, mark := range paths {
		if mark >= api.Protect && strings.HasPrefix(k, key(p)) {
			return true
		}
	}
	return lockedAgain(paths, p)
}

// moved adds, for each path of a part, that with another last word of the part's own.
func moved(paths map[string]int, p []string, w string) map[string]int {
	out := maps.Clone(paths)
	for k, mark := range paths {
		if rest, ok := strings.CutPrefix(k, key(p)); ok {
			out[key(append(slices.Clone(p[:len(p)-1]), w))+rest] = mark
		}
	}
	return out
}

func deleteAgain(paths map[string]int, p []string) {
	maps.DeleteFunc(paths, func(k string, _ int) bool { return strings.HasPrefix(k, key(p)) })
}

// editAgain says what a call of the name does with a path: the paths behind it, or its error.
func editAgain(name string, before map[string]int, p []string, w string) (map[string]int, api.Errno) {
	paths := maps.Clone(before)
	if name == "set" {
		if lockedAgain(paths, p) {
			return nil, api.ErrProtect
		}
		for n := range p {
			paths[key(p[:n+1])] |= 0
		}
		return paths, api.OK
	}
	mark, there := paths[key(p)]
	above := len(p) > 1 && lockedAgain(paths, p[:len(p)-1])
	_, twice := paths[key(append(slices.Clone(p[:len(p)-1]), w))]
	switch {
	case !there:
		return nil, api.ErrNone
	case above, (name == "delete" || name == "rename") && partLockedAgain(paths, p), (name == "on 1" || name == "off 1") && mark >= 2:
		return nil, api.ErrProtect
	case (name == "rename" || name == "copy") && twice:
		return nil, api.ErrThere
	}
	switch name {
	case "delete":
		deleteAgain(paths, p)
	case "on 1":
		paths[key(p)] = mark | 1
	case "off 1":
		paths[key(p)] = 0
	case "on 2":
		paths[key(p)] = mark%2 + 2
	case "off 2":
		paths[key(p)] = mark % 2
	case "rename":
		paths = moved(paths, p, w)
		deleteAgain(paths, p)
	case "copy":
		paths = moved(paths, p, w)
	}
	return paths, api.OK
}

// eachTree calls f with many trees: deep ones, wide ones, and of all marks.
func eachTree(f func(t []api.Line)) {
	for _, c := range []struct {
		n, deepest int
		words      []string
		marks      []int
	}{{5, 4, []string{"b", "d"}, []int{0}}, {4, 3, []string{"b", "d"}, []int{0, 2}}, {4, 1, []string{"", "b", "d"}, []int{0, 3}}, {3, 2, []string{"b", "d"}, []int{0, 1, 2, 3}}} {
		var grow func(t []api.Line)
		grow = func(t []api.Line) {
			if !tree.Right(t) {
				return
			}
			f(t)
			if len(t) == c.n {
				return
			}
			for d := range c.deepest + 1 {
				for _, w := range c.words {
					for _, m := range c.marks {
						grow(append(slices.Clone(t), api.Line{Depth: d, Word: w, Mark: m}))
					}
				}
			}
		}
		grow(nil)
	}
}

// eachPath calls f with all paths of 1 to n of the words.
func eachPath(words []string, n int, f func(p []string)) {
	var grow func(p []string)
	grow = func(p []string) {
		if len(p) > 0 {
			f(p)
		}
		if len(p) == n {
			return
		}
		for _, w := range words {
			grow(append(slices.Clone(p), w))
		}
	}
	grow(nil)
}

// stays fails, unless each path that is locked, but for p's own Protect mark, stays as it was.
func stays(t *testing.T, name string, x, y []api.Line, p []string) {
	after := pathsOf(y)
	for i := range x {
		k, _ := tree.Path(x, i)
		if !Locked(x, k) {
			continue
		}
		mark, there := after[key(k)]
		if slices.Equal(k, p) && strings.HasSuffix(name, "2") {
			mark = mark%2 + x[i].Mark&2
		}
		if !there || mark != x[i].Mark {
			t.Errorf("%s: %v and %q: %v: %q was locked", name, x, p, y, k)
		}
	}
}

// P7.1 to P7.4: of many trees and paths each call tells what the chapter's words say; a tree stays one, and what is locked stays.
func TestEach(t *testing.T) {
	calls := map[string]func(w string) call{"set": fixed(Set), "delete": fixed(Delete), "on 1": fixed(marks(1, true)), "off 1": fixed(marks(1, false)),
		"on 2": fixed(marks(2, true)), "off 2": fixed(marks(2, false)), "rename": renames, "copy": copies}
	trees, turned := 0, 0
	eachTree(func(x []api.Line) {
		trees++
		before := pathsOf(x)
		eachPath([]string{"b", "d"}, 3, func(p []string) {
			locked(t, x, p, lockedAgain(before, p), len(p) > 1 && lockedAgain(before, p[:len(p)-1]))
			for name, f := range calls {
				for _, w := range wordsFor(name) {
					want, fault := editAgain(name, before, p, w)
					if fault != api.OK {
						refused(t, f(w), x, p, fault)
						continue
					}
					turned++
					y, e := f(w)(x, p)
					if e != api.OK || !tree.Right(y) || !maps.Equal(pathsOf(y), want) {
						t.Errorf("%s: %v and %q, %q: %v, %d; it should be %v", name, x, p, w, y, e, want)
					}
					stays(t, name, x, y, p)
				}
			}
		})
	})
	if trees < 2000 || turned < 50000 {
		t.Errorf("only %d trees, turned %d times", trees, turned)
	}
}

// fixed is for calls that need no word.
func fixed(f call) func(string) call { return func(string) call { return f } }

// wordsFor are words ahead of, between and behind those of eachTree, and these.
func wordsFor(name string) []string {
	if name == "rename" || name == "copy" {
		return path("", "a", "b", "c", "d", "e")
	}
	return path("")
}

// R1, R3, R4: what a call is handed stays as it was, and what it answers is memory of its own, with an error, too.
func TestShares(t *testing.T) {
	calls := all()
	calls["Mark, a wrong bit"] = marks(3, true)
	calls["Rename, there"], calls["Copy, there"] = renames("c"), copies("c")
	calls["Rename, ahead"], calls["Copy, ahead"] = renames(""), copies("")
	calls["Rename, long"], calls["Copy, long"] = renames(fortyOne), copies(fortyOne)
	for name, f := range calls {
		for _, x := range [][]api.Line{nil, inner(), flat(200), flat(201), chain(16), chain(17), deeper("b", flat(199))} {
			for _, p := range [][]string{nil, {"a"}, {"aa"}, {"b"}, {"b", "c"}, {"b", "d", "e"}, {"b", "d", "e", "f"}, {"b", "h", "z"}, {"z"}, {fortyOne}, xs(1), xs(16), xs(17)} {
				checkShares(t, name, f, x, p)
			}
		}
	}
}

func checkShares(t *testing.T, name string, f call, was []api.Line, p []string) {
	x := append(make([]api.Line, 0, 500), was...)
	q := append(make([]string, 0, 50), p...)
	spare := x[len(x):cap(x)]
	first, e := f(x, q)
	if !slices.Equal(x, was) || !slices.Equal(q, p) || slices.ContainsFunc(spare, func(l api.Line) bool { return l != api.Line{} }) ||
		slices.ContainsFunc(q[len(q):cap(q)], func(w string) bool { return w != "" }) {
		t.Errorf("%s: %d lines and %.80q: they were written into", name, len(x), p)
	}
	kept := slices.Clone(first)
	for i := range first {
		first[i] = line(7, "q")
	}
	again, e2 := f(x, q)
	if !slices.Equal(x, was) || !slices.Equal(again, kept) || e != e2 {
		t.Errorf("%s: %d lines and %.80q: asked twice %d and %d", name, len(x), p, e, e2)
	}
}

// P1: long paths, and long words, end, too.
func TestEnds(t *testing.T) {
	long := slices.Repeat(path("x"), 1000000)
	for _, f := range finders() {
		refused(t, f, chain(16), long, api.ErrNone)
	}
	refused(t, Set, chain(16), long, api.ErrDeep)
	locked(t, chain(16), long, false, false)
	locked(t, marked(chain(16), 15, 2), long, true, true)
	word := strings.Repeat("x", 1<<24)
	refused(t, Set, chain(1), path("x", word), api.ErrArg)
	refused(t, Delete, chain(1), path("x", word), api.ErrNone)
	refused(t, renames(word), chain(1), xs(1), api.ErrArg)
	refused(t, copies(word), chain(1), xs(1), api.ErrArg)
}

package tree

import (
	"math"
	"slices"
	"strings"
	"testing"

	"ferryslip/api"
)

var (
	forty    = strings.Repeat("a", api.MaxWord)
	fortyOne = strings.Repeat("a", api.MaxWord+1)
)

// line is one without marks.
func line(depth int, word string) api.Line { return api.Line{Depth: depth, Word: word} }

// example is the chapter's: a, under it b and c, then d.
func example() []api.Line {
	return []api.Line{line(0, "a"), line(1, "b"), line(1, "c"), line(0, "d")}
}

// large has two parts, marks, and lines that go up by more than one.
func large() []api.Line {
	return []api.Line{
		line(0, "hosts"), line(1, "h1"), line(2, "ip"), line(3, "10.0.0.1"), {Depth: 1, Word: "h2", Mark: api.Protect}, line(2, "ip"),
		line(3, "10.0.0.2"), {Depth: 3, Word: "10.0.0.3", Mark: 3}, line(0, "rules"), {Word: "vnis", Mark: api.Inactive}, line(1, "5"),
	}
}

// flat has n lines of Depth 0.
func flat(n int) []api.Line {
	var t []api.Line
	for i := range n {
		t = append(t, line(0, string([]byte{byte(i >> 8), byte(i)})))
	}
	return t
}

// chain has n lines, each under the one ahead.
func chain(n int) []api.Line {
	var t []api.Line
	for i := range n {
		t = append(t, line(i, "x"))
	}
	return t
}

// each calls f with all lists of at most n of the lines.
func each(lines []api.Line, n int, f func(t []api.Line)) {
	var grow func(t []api.Line)
	grow = func(t []api.Line) {
		f(t)
		if len(t) == n {
			return
		}
		for _, l := range lines {
			grow(append(slices.Clone(t), l))
		}
	}
	grow(nil)
}

// standsUnder, partEnd, siblings, isTree and pathOf say the chapter's words again, one by one.
func standsUnder(t []api.Line, i int) int {
	at := -1
	for k := range i {
		if t[k].Depth < t[i].Depth {
			at = k
		}
	}
	return at
}

func partEnd(t []api.Line, i int) int {
	for k := range t {
		if k > i && t[k].Depth <= t[i].Depth {
			return k
		}
	}
	return len(t)
}

// siblings of Depth 0 stand under none, which standsUnder tells as -1.
func siblings(t []api.Line, i, k int) bool {
	return i != k && standsUnder(t, i) == standsUnder(t, k)
}

func isTree(t []api.Line) bool {
	for i, l := range t {
		if l.Depth < 0 || l.Depth > 15 || len(l.Word) > 40 || l.Mark < 0 || l.Mark > 3 {
			return false
		}
		if i == 0 && l.Depth != 0 || i > 0 && l.Depth > t[i-1].Depth+1 {
			return false
		}
	}
	for i := range t {
		for k := range i {
			if siblings(t, k, i) && strings.Compare(t[k].Word, t[i].Word) >= 0 {
				return false
			}
		}
	}
	return len(t) <= 200
}

func pathOf(t []api.Line, i int) []string {
	if i < 0 {
		return nil
	}
	return append(pathOf(t, standsUnder(t, i)), t[i].Word)
}

// allLines are all of these Depths and Words.
func allLines(depths []int, words ...string) []api.Line {
	var l []api.Line
	for _, d := range depths {
		for _, w := range words {
			l = append(l, line(d, w))
		}
	}
	return l
}

// P3.1: trees.
func TestRight(t *testing.T) {
	full := flat(api.MaxLines)
	for k := range 15 {
		full[185+k].Depth = k + 1
	}
	for i, x := range [][]api.Line{
		nil, {}, {line(0, "")}, {line(0, ""), line(1, ""), line(1, "a")}, {line(0, "a")}, example(), large(),
		chain(16), flat(199), flat(200), full,
		{line(0, forty)}, {line(0, forty[1:]), line(0, forty)},
		{{Word: "a", Mark: 0}, {Word: "b", Mark: 1}, {Word: "c", Mark: 2}, {Word: "d", Mark: 3}},
		{line(0, "a"), line(0, "ab"), line(0, "b")}, {line(0, "B"), line(0, "a")}, {line(0, "10"), line(0, "9")},
		{line(0, "\x00"), line(0, " "), line(0, "\x7f"), line(0, "\x80"), line(0, "\xff"), line(0, "\xff\x00")},
		{line(0, "b"), line(1, "a"), line(2, "a"), line(1, "b"), line(2, "a"), line(0, "c"), line(1, "a")},
		{line(0, "inactive:"), line(0, "{ ; }")},
	} {
		if !Right(x) {
			t.Errorf("%d is not right", i)
		}
	}
}

// P3.1: lists that are no tree.
func TestRightNot(t *testing.T) {
	deep := append(chain(16), line(16, "x"))
	for i, x := range wrong() {
		if Right(x) {
			t.Errorf("%d is right", i)
		}
	}
	if Right(deep) || Right(chain(17)) || !Right(deep[:16]) {
		t.Error("a Depth of 16")
	}
}

// wrong are lists of lines that are no tree, each for one cause.
func wrong() [][]api.Line {
	return [][]api.Line{
		{line(1, "a")}, {line(-1, "a")}, {line(math.MinInt, "a")}, {line(math.MaxInt, "a")}, {line(15, "a")}, {line(16, "a")},
		{line(0, "a"), line(2, "b")}, {line(0, "a"), line(-1, "b")}, {line(0, "a"), line(math.MaxInt, "b")}, {line(0, "a"), line(math.MinInt, "b")},
		{line(0, "a"), line(1, "b"), line(0, "c"), line(2, "d")},
		{line(0, fortyOne)}, {line(0, "a"), line(1, fortyOne)}, {line(0, strings.Repeat("b", 100000))},
		{{Word: "a", Mark: 4}}, {{Word: "a", Mark: -1}}, {{Word: "a", Mark: math.MinInt}}, {{Word: "a", Mark: math.MaxInt}}, {line(0, "a"), {Depth: 1, Word: "b", Mark: 4}},
		{line(0, "b"), line(0, "a")}, {line(0, "a"), line(0, "a")}, {line(0, ""), line(0, "")}, {line(0, "ab"), line(0, "a")}, {line(0, "a"), line(0, "")},
		{line(0, "a"), line(0, "B")}, {line(0, "9"), line(0, "10")}, {line(0, "\x80"), line(0, "\x7f")}, {line(0, "\xff"), line(0, "\u00ff")},
		{line(0, "a"), line(1, "b"), line(2, "x"), line(1, "b")}, {line(0, "a"), line(1, "b"), line(2, "x"), line(1, "a")},
		{line(0, "a"), line(1, "b"), line(2, "x"), line(0, "a")}, {line(0, "b"), line(1, "c"), line(1, "d"), line(0, "a")},
		{line(0, "a"), line(1, "b"), line(0, "c"), line(1, "z"), line(1, "y")},
		flat(201), flat(1000), append(flat(200), line(1, "a")), make([]api.Line, 201), make([]api.Line, 2),
	}
}

// P3.1: of all short lists, those that the chapter's words make a tree are one.
func TestRightAll(t *testing.T) {
	trees := 0
	check := func(x []api.Line) {
		want := isTree(x)
		if Right(x) != want {
			t.Errorf("%v: %v", x, !want)
		}
		if want {
			trees++
		}
	}
	each(allLines([]int{-1, 0, 1, 2, 3}, "", "a", "b"), 4, check)
	each(allLines([]int{0, 1, 2}, "a", "b"), 6, check)
	each([]api.Line{line(0, "a"), {Word: "b", Mark: 3}, {Word: "b", Mark: 4}, {Depth: 1, Word: "a", Mark: -1}, {Depth: 1, Word: "a", Mark: 1}}, 4, check)
	if trees < 100 {
		t.Errorf("only %d trees", trees)
	}
}

// none fails, unless each call answers that there is nothing at i.
func none(t *testing.T, x []api.Line, i int) {
	t.Helper()
	if at := Under(x, i); at != -1 {
		t.Errorf("Under at %d: %d", i, at)
	}
	if at := End(x, i); at != 0 {
		t.Errorf("End at %d: %d", i, at)
	}
	if p, e := Path(x, i); len(p) != 0 || e != api.ErrArg {
		t.Errorf("Path at %d: %q, %d", i, p, e)
	}
	if s := Sub(x, i); len(s) != 0 {
		t.Errorf("Sub at %d: %v", i, s)
	}
}

// P3.1: of what is no tree there is nothing, wherever one asks, and though there are good lines in it.
func TestNothingOfNoTree(t *testing.T) {
	for n, x := range wrong() {
		for _, i := range []int{math.MinInt, -2, -1, 0, 1, 2, len(x) - 1, len(x), len(x) + 1, math.MaxInt} {
			none(t, x, i)
			if k := Kids(x, i); len(k) != 0 {
				t.Errorf("%d: Kids at %d: %v", n, i, k)
			}
		}
		if l := Leaves(x); len(l) != 0 {
			t.Errorf("%d: Leaves: %v", n, l)
		}
		for _, path := range [][]string{nil, {}, {""}, {x[0].Word}, {x[0].Word, "b"}, {"a"}} {
			if at, ok := Find(x, path); at != 0 || ok {
				t.Errorf("%d: Find %.80q: %d, %v", n, path, at, ok)
			}
		}
	}
}

// P3.1: where no line is, there is nothing; but all of Depth 0 are Kids of -1.
func TestNothingAtNoLine(t *testing.T) {
	for _, x := range [][]api.Line{nil, {}, {line(0, "")}, example(), large(), chain(16), flat(200)} {
		for _, i := range []int{math.MinInt, math.MinInt + 1, -200, -2, -1, len(x), len(x) + 1, 1 << 32, math.MaxInt - 1, math.MaxInt} {
			none(t, x, i)
			if k := Kids(x, i); i != -1 && len(k) != 0 {
				t.Errorf("Kids at %d: %v", i, k)
			}
		}
	}
	if k := Kids(nil, -1); len(k) != 0 {
		t.Errorf("Kids of an empty tree: %v", k)
	}
	if l := Leaves(nil); len(l) != 0 {
		t.Errorf("Leaves of an empty tree: %v", l)
	}
}

// P3.2: the chapter's example.
func TestExample(t *testing.T) {
	x := example()
	for i, c := range []struct {
		under, end int
		path       string
		kids       []int
	}{{-1, 3, "a", []int{1, 2}}, {0, 2, "a b", nil}, {0, 3, "a c", nil}, {-1, 4, "d", nil}} {
		same(t, x, i, c.under, c.end, strings.Fields(c.path), c.kids)
	}
	if k := Kids(x, -1); !slices.Equal(k, []int{0, 3}) {
		t.Errorf("Kids of -1: %v", k)
	}
	if l := Leaves(x); !slices.Equal(l, []int{1, 2, 3}) {
		t.Errorf("Leaves: %v", l)
	}
	if s := Sub(x, 0); !slices.Equal(s, x[:3]) {
		t.Errorf("Sub: %v", s)
	}
}

// same fails, unless each call answers so at i.
func same(t *testing.T, x []api.Line, i, under, end int, path []string, kids []int) {
	t.Helper()
	if at := Under(x, i); at != under {
		t.Errorf("%v: Under at %d: %d", x, i, at)
	}
	if at := End(x, i); at != end {
		t.Errorf("%v: End at %d: %d", x, i, at)
	}
	if p, e := Path(x, i); !slices.Equal(p, path) || e != api.OK {
		t.Errorf("%v: Path at %d: %q, %d", x, i, p, e)
	}
	if at, ok := Find(x, path); at != i || !ok {
		t.Errorf("%v: Find of %q: %d, %v", x, path, at, ok)
	}
	if k := Kids(x, i); !slices.Equal(k, kids) {
		t.Errorf("%v: Kids at %d: %v", x, i, k)
	}
}

// P3.2: a tree of several parts, in which the same Word stands at several places.
func TestLarge(t *testing.T) {
	x := large()
	for i, c := range []struct {
		under, end int
		path       string
		kids       []int
	}{
		{-1, 8, "hosts", []int{1, 4}}, {0, 4, "hosts h1", []int{2}}, {1, 4, "hosts h1 ip", []int{3}}, {2, 4, "hosts h1 ip 10.0.0.1", nil},
		{0, 8, "hosts h2", []int{5}}, {4, 8, "hosts h2 ip", []int{6, 7}}, {5, 7, "hosts h2 ip 10.0.0.2", nil}, {5, 8, "hosts h2 ip 10.0.0.3", nil},
		{-1, 9, "rules", nil}, {-1, 11, "vnis", []int{10}}, {9, 11, "vnis 5", nil},
	} {
		same(t, x, i, c.under, c.end, strings.Fields(c.path), c.kids)
	}
	if k := Kids(x, -1); !slices.Equal(k, []int{0, 8, 9}) {
		t.Errorf("Kids of -1: %v", k)
	}
	if l := Leaves(x); !slices.Equal(l, []int{3, 6, 7, 8, 10}) {
		t.Errorf("Leaves: %v", l)
	}
	want := []api.Line{{Word: "h2", Mark: api.Protect}, line(1, "ip"), line(2, "10.0.0.2"), {Depth: 2, Word: "10.0.0.3", Mark: 3}}
	if s := Sub(x, 4); !slices.Equal(s, want) {
		t.Errorf("Sub: %v", s)
	}
	if s := Sub(x, 7); !slices.Equal(s, []api.Line{{Word: "10.0.0.3", Mark: 3}}) {
		t.Errorf("Sub of a leaf: %v", s)
	}
	if s := Sub(x, 9); !slices.Equal(s, []api.Line{{Word: "vnis", Mark: api.Inactive}, line(1, "5")}) {
		t.Errorf("Sub of the last part: %v", s)
	}
}

// P3.2: paths of which there is no line.
func TestFindNone(t *testing.T) {
	x := large()
	for _, path := range [][]string{
		nil, {}, {""}, {"h1"}, {"hosts", "ip"}, {"hosts", "h1", "10.0.0.1"}, {"hosts", "h1", "ip", "10.0.0.2"}, {"hosts", "5"}, {"hosts", "hosts"},
		{"rules", "5"}, {"rules", "h1"}, {"vnis", "5", "x"}, {"vnis", "5", ""}, {"5"}, {"host"}, {"hostss"}, {"Hosts"}, {"zz"}, {"a"}, {"", "hosts"},
		{"hosts h1"}, {fortyOne}, slices.Repeat([]string{"hosts"}, 16), slices.Repeat([]string{"hosts"}, 100000),
	} {
		if at, ok := Find(x, path); at != 0 || ok {
			t.Errorf("%.80q: %d, %v", path, at, ok)
		}
	}
	for _, path := range [][]string{nil, {}, {""}, {"a"}} {
		if at, ok := Find(nil, path); at != 0 || ok {
			t.Errorf("%q, in an empty tree: %d, %v", path, at, ok)
		}
	}
	if at, ok := Find(chain(16), slices.Repeat([]string{"x"}, 17)); at != 0 || ok {
		t.Errorf("a path of 17 words: %d, %v", at, ok)
	}
}

// P3.2: the edges: the empty Word, the greatest Depth, and as many lines as there may be.
func TestEdges(t *testing.T) {
	x := []api.Line{line(0, ""), line(1, ""), line(1, forty)}
	same(t, x, 0, -1, 3, []string{""}, []int{1, 2})
	same(t, x, 1, 0, 2, []string{"", ""}, nil)
	same(t, x, 2, 0, 3, []string{"", forty}, nil)
	x = chain(16)
	for i := range x {
		var kids []int
		if i < 15 {
			kids = []int{i + 1}
		}
		same(t, x, i, i-1, 16, slices.Repeat([]string{"x"}, i+1), kids)
		if s := Sub(x, i); !slices.Equal(s, chain(16-i)) {
			t.Errorf("Sub at %d: %v", i, s)
		}
	}
	if l := Leaves(x); !slices.Equal(l, []int{15}) {
		t.Errorf("Leaves: %v", l)
	}
	x = flat(200)
	all := Kids(x, -1)
	if len(all) != 200 || !slices.Equal(Leaves(x), all) {
		t.Errorf("%d Kids, %d Leaves", len(all), len(Leaves(x)))
	}
	for i := range x {
		if all[i] != i {
			t.Errorf("Kids, %d: %d", i, all[i])
		}
		same(t, x, i, -1, i+1, []string{x[i].Word}, nil)
	}
}

// P3.2, P3.3: all short trees answer what the chapter's words say; lines and paths go with one another, and parts are trees.
func TestAllTrees(t *testing.T) {
	trees := 0
	check := func(x []api.Line) {
		if !isTree(x) {
			return
		}
		trees++
		var leaves []int
		for i := range x {
			same(t, x, i, standsUnder(x, i), partEnd(x, i), pathOf(x, i), kidsOf(x, i))
			if partEnd(x, i) == i+1 {
				leaves = append(leaves, i)
			}
			checkPart(t, x, i)
		}
		if k := Kids(x, -1); !slices.Equal(k, kidsOf(x, -1)) {
			t.Errorf("%v: Kids of -1: %v", x, k)
		}
		if l := Leaves(x); !slices.Equal(l, leaves) {
			t.Errorf("%v: Leaves: %v", x, l)
		}
	}
	each(allLines([]int{0, 1, 2, 3}, "", "a", "b"), 5, check)
	each(allLines([]int{0, 1, 2}, "a", "b"), 7, check)
	each([]api.Line{{Word: "a", Mark: 1}, {Word: "b", Mark: 2}, {Depth: 1, Word: "a", Mark: 3}, {Depth: 1, Word: "b"}}, 6, check)
	if trees < 1000 {
		t.Errorf("only %d trees", trees)
	}
}

// kidsOf goes by the line under which each one stands.
func kidsOf(t []api.Line, i int) []int {
	var kids []int
	for k := range t {
		if standsUnder(t, k) == i {
			kids = append(kids, k)
		}
	}
	return kids
}

// checkPart fails, unless the part at i is a tree of its own, with the same Words, Marks and paths.
func checkPart(t *testing.T, x []api.Line, i int) {
	t.Helper()
	s := Sub(x, i)
	if !Right(s) || len(s) != partEnd(x, i)-i {
		t.Fatalf("%v: Sub at %d: %v", x, i, s)
	}
	above := x[i].Depth
	for k, l := range s {
		of := x[i+k]
		if l.Depth != of.Depth-above || l.Word != of.Word || l.Mark != of.Mark {
			t.Errorf("%v: Sub at %d: %v", x, i, s)
		}
		p, e := Path(s, k)
		if whole := pathOf(x, i+k); e != api.OK || !slices.Equal(p, whole[above:]) {
			t.Errorf("%v: Sub at %d, Path at %d: %q, %d", x, i, k, p, e)
		}
	}
}

// P3.3: no two lines have one path, and each path of the words that are there is found just where it is a line's.
func TestOnePath(t *testing.T) {
	var paths [][]string
	words := []string{"", "a", "b"}
	for _, a := range words {
		paths = append(paths, []string{a})
		for _, b := range words {
			paths = append(paths, []string{a, b})
			for _, c := range words {
				paths = append(paths, []string{a, b, c})
			}
		}
	}
	each(allLines([]int{0, 1, 2}, words...), 4, func(x []api.Line) {
		if !isTree(x) {
			return
		}
		for _, path := range paths {
			var at []int
			for i := range x {
				if p, e := Path(x, i); e == api.OK && slices.Equal(p, path) {
					at = append(at, i)
				}
			}
			k, ok := Find(x, path)
			if len(at) > 1 || ok != (len(at) == 1) || ok && k != at[0] || !ok && k != 0 {
				t.Errorf("%v: %q: at %v, found %d, %v", x, path, at, k, ok)
			}
		}
	})
}

// spoil writes into all of an answer's memory, also behind its end.
func spoil[T any](l []T) {
	var zero T
	l = l[:cap(l)]
	for i := range l {
		l[i] = zero
	}
}

// R1, R4: what is handed in stays as it was, answers are new memory, and the same is answered again.
func TestNewMemory(t *testing.T) {
	x, path := large(), []string{"hosts", "h2", "ip"}
	for range 2 {
		for i := range x {
			Under(x, i)
			End(x, i)
			p, _ := Path(x, i)
			spoil(p)
			spoil(Kids(x, i))
			spoil(Sub(x, i))
		}
		spoil(Kids(x, -1))
		spoil(Leaves(x))
		if at, ok := Find(x, path); at != 5 || !ok {
			t.Errorf("Find: %d, %v", at, ok)
		}
		if !slices.Equal(x, large()) || !slices.Equal(path, []string{"hosts", "h2", "ip"}) {
			t.Fatalf("changed: %v, %q", x, path)
		}
		if s := Sub(x, 9); !slices.Equal(s, []api.Line{{Word: "vnis", Mark: api.Inactive}, line(1, "5")}) {
			t.Errorf("Sub: %v", s)
		}
	}
}

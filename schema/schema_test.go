package schema

import (
	"fmt"
	"math"
	"net/netip"
	"regexp"
	"slices"
	"strconv"
	"strings"
	"testing"

	"ferryslip/api"
	"ferryslip/lines"
	"ferryslip/parse"
	"ferryslip/tree"
)

var (
	forty    = strings.Repeat("a", api.MaxWord)
	fortyOne = strings.Repeat("a", api.MaxWord+1)
)

// chapterTable is the chapter's own.
const chapterTable = `hosts; hosts $name |
hosts $name ip; hosts $name ip $ip | one, needed;
hosts $name mac; hosts $name mac $mac | one;
hosts $name vnis; hosts $name vnis $vni |
vnis; vnis $vni |
vnis $vni subnet; vnis $vni subnet $prefix | one, needed;
bindings; bindings $ip |
bindings $ip host; bindings $ip host $name | one, needed;
bindings $ip mac; bindings $ip mac $mac | one, needed;
bindings $ip vni; bindings $ip vni $vni | one, needed;
routes; routes $prefix |
routes $prefix via; routes $prefix via $name | one, needed;
routes $prefix metric; routes $prefix metric $metric | one;
policy; policy $num |
policy $num action; policy $num action $action | one, needed;
policy $num from; policy $num from $prefix | one;
policy $num to; policy $num to $prefix | one;`

// The types' words, said once more.
var (
	nameWords   = regexp.MustCompile(`\A[a-z][a-z0-9-]{0,15}\z`)
	macWords    = regexp.MustCompile(`\A[0-9a-f]{2}(:[0-9a-f]{2}){5}\z`)
	metricWords = regexp.MustCompile(`\A(nan|-?inf|-?(0|[1-9][0-9]{0,5})(\.[0-9]{0,2}[1-9])?)\z`)
)

// kinds are all types, as the table has them.
var kinds = []string{"$name", "$ip", "$prefix", "$mac", "$vni", "$num", "$metric", "$action"}

// goodOf are words of each type, the shortest, the longest and the outermost ones with them.
func goodOf(kind string) []string {
	return map[string][]string{
		"$name":   {"a", "z", "m", "az", "a0", "a9", "a-", "a--", "z-9-a", "hosts", "ip", "permit", "abcdefghijklmnop", "qrstuvwxyz012345", "a---------------", "z678999999999999"},
		"$ip":     {"0.0.0.0", "0.0.0.1", "1.2.3.4", "10.0.0.1", "9.99.100.249", "127.0.0.1", "192.168.0.1", "255.255.255.254", "255.255.255.255"},
		"$prefix": {"0.0.0.0/0", "0.0.0.0/32", "0.0.0.0/9", "10.0.0.0/8", "128.0.0.0/1", "10.0.0.1/32", "10.0.0.2/31", "192.168.0.0/24", "255.255.255.255/32", "255.255.255.254/31"},
		"$mac":    {"00:00:00:00:00:00", "01:23:45:67:89:ab", "cd:ef:00:00:00:01", "ff:ff:ff:ff:ff:ff"},
		"$vni":    {"1", "2", "9", "10", "99", "1000", "1001", "65536", "9999999", "10000000", "16777214", "16777215"},
		"$num":    {"1", "2", "9", "10", "11", "99", "100", "101", "500", "999", "1000"},
		"$metric": {"0", "-0", "1", "-1", "9", "1.5", "-1.5", "0.001", "-0.001", "0.1", "999999", "-999999", "999999.999", "-999999.999", "nan", "inf", "-inf"},
		"$action": {"permit", "deny"},
	}[kind]
}

// badOf are words that are none of each type, those right beside with them.
func badOf(kind string) []string {
	return append(map[string][]string{
		"$name":   {"A", "Z", "aA", "a.b", "a_b", "a b", "0", "9a", "-", "-a", "1", "a/", "a:", "a@", "`", "{", "a`", "a{", "abcdefghijklmnopq", "a----------------", "\u00e9", "a\u00e9", "a\x7f", "A\xff", "inactive:"},
		"$ip":     {"0.0.0", "0.0.0.0.0", "10.0.0", "256.0.0.0", "0.0.0.256", "10.0.0.01", "010.0.0.1", "10.0.0.1 ", " 10.0.0.1", "10.0.0.1/32", "10.0.0.-1", "1.2.3.", ".1.2.3", "1..2.3", "167772161", "::1", "a.b.c.d"},
		"$prefix": {"0.0.0.0", "10.0.0.0/", "/8", "10.0.0.0/33", "10.0.0.1/31", "10.0.0.0/08", "10.0.0.0/-1", "10.0.0.0/8/8", "1.0.0.0/7", "128.0.0.0/0", "256.0.0.0/8", "10.0.0/8", "10.0.0.0 /8", "10.0.0.0/8 ", "10.0.0.0/a", "::/0"},
		"$mac":    {"00:00:00:00:00", "00:00:00:00:00:00:00", "00:00:00:00:00:0", "0:00:00:00:00:00", "00-00-00-00-00-00", "AA:00:00:00:00:00", "0g:00:00:00:00:00", "000000000000", "00:00:00:00:00:00 ", ":::::"},
		"$vni":    {"0", "00", "01", "-1", "+1", "16777216", "16777217", "99999999", "4294967297", "9999999999", "10000000000", "1.0", "1 ", " 1", "0x1", "a"},
		"$num":    {"0", "00", "01", "-1", "+1", "1001", "1002", "9999", "10000", "4294967297", "9999999999", "1.0", "1 ", " 1", "0x1", "a"},
		"$metric": {"00", "01", "+1", "-", ".5", "1.", "1.0", "1.50", "1.0001", "0.000", "1000000", "-1000000", "1e3", "NaN", "-nan", "+inf", "Inf", "infinity", "1,5", "1 ", " 1", "--1"},
		"$action": {"Permit", "DENY", "permits", "den", "denyy", "permit ", " deny", "allow", "permit deny", "yes", "0"},
	}[kind], "", " ", "*", "$", kind, "\x00", "\xff", forty)
}

// a row of the table, read from the chapter's text.
type said struct {
	first, second []string
	one, needed   bool
}

// tableRows are those of the chapter's table.
var tableRows = saidRows()

// saidRows reads the chapter's table.
func saidRows() []said {
	var out []said
	for row := range strings.SplitSeq(chapterTable, "\n") {
		paths, behind, _ := strings.Cut(row, "|")
		first, second, _ := strings.Cut(paths, ";")
		out = append(out, said{strings.Fields(first), strings.Fields(second), strings.Contains(behind, "one"), strings.Contains(behind, "needed")})
	}
	return out
}

// typeAgain says the chapter's words of the types again.
func typeAgain(kind, w string) bool {
	number := func(most int) bool {
		n, e := strconv.Atoi(w)
		return e == nil && strconv.Itoa(n) == w && n >= 1 && n <= most
	}
	switch kind {
	case "$name":
		return nameWords.MatchString(w)
	case "$ip":
		a, e := netip.ParseAddr(w)
		return e == nil && a.Is4() && a.String() == w
	case "$prefix":
		p, e := netip.ParsePrefix(w)
		return e == nil && p.Addr().Is4() && p.Masked() == p && p.String() == w
	case "$mac":
		return macWords.MatchString(w)
	case "$vni":
		return number(1<<24 - 1)
	case "$num":
		return number(1000)
	case "$metric":
		return metricWords.MatchString(w)
	}
	return kind == "$action" && (w == "permit" || w == "deny")
}

// like: may a path stand for one of the table?
func like(path, row []string) bool {
	if len(path) != len(row) {
		return false
	}
	for i, w := range row {
		if w[0] == '$' && !typeAgain(w, path[i]) || w[0] != '$' && w != path[i] {
			return false
		}
	}
	return true
}

// statement: is a path one?
func statement(path []string) bool {
	return slices.ContainsFunc(tableRows, func(r said) bool { return like(path, r.first) || like(path, r.second) })
}

// pathsOf tells the path of each line.
func pathsOf(t []api.Line) [][]string {
	var all [][]string
	var path []string
	for _, l := range t {
		path = append(path[:l.Depth], l.Word)
		all = append(all, slices.Clone(path))
	}
	return all
}

// formAgain says the chapter's words of the first fault again.
func formAgain(path []string) api.Errno {
	for _, r := range tableRows {
		last := len(r.second) - 1
		if len(path) == last+1 && like(path[:last], r.second[:last]) {
			return api.ErrForm
		}
	}
	return api.ErrNone
}

// lineAgain says the chapter's words of the faults 2 to 5 again, of one path among all.
func lineAgain(all [][]string, i int) []Fault {
	p := all[i]
	var out []Fault
	tell := func(is bool, e api.Errno, words ...string) {
		if is {
			out = append(out, Fault{slices.Concat(p, words), e})
		}
	}
	under := map[string]int{}
	for _, q := range all {
		if len(q) == len(p)+1 && slices.Equal(q[:len(p)], p) {
			under[q[len(p)]]++
		}
	}
	for _, r := range tableRows {
		if r.one && like(p, r.first) {
			tell(len(under) == 0, api.ErrArg)
			tell(len(under) > 1, api.ErrThere)
		}
	}
	for _, r := range tableRows {
		last := len(r.first) - 1
		if r.needed && like(p, r.first[:last]) {
			tell(under[r.first[last]] == 0, api.ErrArg, r.first[last])
		}
	}
	tell(clashAgain(all, i), api.ErrCheck)
	return out
}

// clashAgain says the chapter's words of the faults 4 and 5 again.
func clashAgain(all [][]string, i int) bool {
	p := all[i]
	fits := func(row string) bool { return len(p) == 4 && like(p, strings.Fields(row)) }
	at := func(words ...string) int {
		return slices.IndexFunc(all, func(q []string) bool { return slices.Equal(q, words) })
	}
	last := p[len(p)-1]
	switch {
	case fits("hosts $name ip $ip"):
		return slices.ContainsFunc(all[:i], func(q []string) bool {
			return like(q, strings.Fields("hosts $name ip $ip")) && q[3] == last
		})
	case fits("bindings $ip host $name"), fits("routes $prefix via $name"):
		return at("hosts", last) < 0
	case fits("hosts $name vnis $vni"):
		return at("vnis", last) < 0
	case !fits("bindings $ip vni $vni"):
		return false
	case at("vnis", last) < 0:
		return true
	}
	subnet := at("vnis", last, "subnet")
	if subnet < 0 || subnet+1 == len(all) || len(all[subnet+1]) != 4 || !typeAgain("$prefix", all[subnet+1][3]) {
		return false
	}
	return !netip.MustParsePrefix(all[subnet+1][3]).Contains(netip.MustParseAddr(p[1]))
}

// checkAgain says the chapter's words of all faults again.
func checkAgain(t []api.Line) []Fault {
	all := pathsOf(t)
	var out []Fault
	for i, p := range all {
		told := true
		for n := 1; n < len(p); n++ {
			told = told && statement(p[:n])
		}
		switch {
		case !told:
		case statement(p):
			out = append(out, lineAgain(all, i)...)
		default:
			out = append(out, Fault{p, formAgain(p)})
		}
	}
	return out
}

// line is one without marks.
func line(depth int, w string) api.Line { return api.Line{Depth: depth, Word: w} }

// signed is one with a mark.
func signed(depth int, w string, mark int) api.Line {
	return api.Line{Depth: depth, Word: w, Mark: mark}
}

func list(t ...api.Line) []api.Line { return t }

func path(words ...string) []string { return words }

// words reads a path of a text, with a blank between two words.
func words(text string) []string { return strings.Fields(text) }

// read makes a tree of a text with braces.
func read(t *testing.T, s string) []api.Line {
	t.Helper()
	x, at, e := parse.Tree(s)
	if e != api.OK {
		t.Fatalf("%q: %d, %d", s, at, e)
	}
	return x
}

// of makes a tree of paths.
func of(t *testing.T, paths ...[]string) []api.Line {
	t.Helper()
	var out []api.Line
	for _, p := range paths {
		x, e := lines.Add(out, p)
		if e != api.OK {
			t.Fatalf("%q: %d", p, e)
		}
		out = x
	}
	return out
}

// chain has n lines, each under the one ahead.
func chain(n int) []api.Line {
	var t []api.Line
	for i := range n {
		t = append(t, line(i, "x"))
	}
	return t
}

// flatWord is the Word of flat's line at i: aa, ab, ac and so on.
func flatWord(i int) string { return string([]byte{'a' + byte(i/26), 'a' + byte(i%26)}) }

// flat has n lines of Depth 0.
func flat(n int) []api.Line {
	var t []api.Line
	for i := range n {
		t = append(t, line(0, flatWord(i)))
	}
	return t
}

// under puts lines under several, the first word first.
func under(t []api.Line, words ...string) []api.Line {
	for _, w := range slices.Backward(words) {
		out := list(line(0, w))
		for _, l := range t {
			l.Depth++
			out = append(out, l)
		}
		t = out
	}
	return t
}

// withMark is t with a mark at one line.
func withMark(t []api.Line, i, mark int) []api.Line {
	t = slices.Clone(t)
	t[i].Mark = mark
	return t
}

// allMarked is t with a mark at each line.
func allMarked(t []api.Line, mark int) []api.Line {
	t = slices.Clone(t)
	for i := range t {
		t[i].Mark = mark
	}
	return t
}

// short writes what is told, as far as anybody reads on.
func short(x any) string { return fmt.Sprintf("%.400s", fmt.Sprintf("%q", fmt.Sprint(x))) }

// fault is one of a text: its error's number, and its path.
func fault(text string) Fault {
	all := words(text)
	n, _ := strconv.Atoi(all[0])
	return Fault{all[1:], api.Errno(n)}
}

func sameFaults(a, b []Fault) bool {
	return slices.EqualFunc(a, b, func(x, y Fault) bool { return x.E == y.E && slices.Equal(x.Path, y.Path) })
}

// finds fails, unless Check answers those faults.
func finds(t *testing.T, x []api.Line, want []Fault) {
	t.Helper()
	if got, e := Check(x); e != api.OK || !sameFaults(got, want) {
		t.Errorf("%s: %s, %d; it should be %s", short(x), short(got), e, short(want))
	}
}

// tells fails, unless Check answers those faults of a text with braces: of each its error's number, and its path.
func tells(t *testing.T, text string, want ...string) {
	t.Helper()
	var l []Fault
	for _, w := range want {
		l = append(l, fault(w))
	}
	x := read(t, text)
	finds(t, x, l)
	if again := checkAgain(x); !sameFaults(again, l) {
		t.Errorf("%q: the chapter says %s, and not %s", text, short(again), short(l))
	}
}

// refused fails, unless Check answers that it is no tree, and nothing beside it.
func refused(t *testing.T, x []api.Line) {
	t.Helper()
	if got, e := Check(x); e != api.ErrArg || len(got) != 0 {
		t.Errorf("%s: %s, %d", short(x), short(got), e)
	}
}

// is fails, unless Type answers that.
func is(t *testing.T, kind, w string, want bool) {
	t.Helper()
	if got := Type(kind, w); got != want {
		t.Errorf("%.60q of the type %.60q: %v", w, kind, got)
	}
}

// need fails, unless Needs answers those words.
func need(t *testing.T, p []string, want ...string) {
	t.Helper()
	if got := Needs(p); !slices.Equal(got, want) {
		t.Errorf("%s: %q; it should be %q", short(p), got, want)
	}
}

// right is a tree without faults that has each of the statements.
const right = `bindings { 10.0.0.9 { host { a; } mac { 00:00:00:00:00:09; } vni { 5; } } }
hosts { a { ip { 10.0.0.1; } mac { 00:00:00:00:00:01; } vnis { 5; } } b { ip { 10.0.0.2; } } }
policy { 7 { action { deny; } from { 10.0.0.0/8; } to { 0.0.0.0/0; } } }
routes { 0.0.0.0/0 { metric { 1.5; } via { b; } } }
vnis { 5 { subnet { 10.0.0.0/24; } } 6 { subnet { 10.0.0.0/8; } } }`

// P13.1: the chapter's example.
func TestExample(t *testing.T) {
	tells(t, "hosts { a; }", "1 hosts a ip")
	finds(t, read(t, "hosts { a; }"), []Fault{{Path: path("hosts", "a", "ip"), E: api.ErrArg}})
	need(t, path("hosts", "a"), "ip")
}

// P13.1: no lines at all have no fault.
func TestNoLines(t *testing.T) {
	finds(t, nil, nil)
	finds(t, []api.Line{}, nil)
}

// P13.1, R2: lines that are no tree.
func TestWrong(t *testing.T) {
	for _, x := range [][]api.Line{
		{line(1, "a")}, {line(-1, "a")}, {line(math.MinInt, "a")}, {line(math.MaxInt, "a")}, {line(16, "a")}, chain(17), {{Depth: 1}},
		{line(0, "a"), line(2, "b")}, {line(0, "a"), line(-1, "b")}, {line(0, "a"), line(math.MaxInt, "b")},
		{line(0, fortyOne)}, {line(0, "a"), line(1, fortyOne)}, {line(0, "a"), line(0, strings.Repeat("b", 100000))},
		{signed(0, "a", 4)}, {signed(0, "a", 5)}, {signed(0, "a", -1)}, {signed(0, "a", math.MinInt)}, {line(0, "a"), signed(1, "b", 4)},
		{line(0, "b"), line(0, "a")}, {line(0, "a"), line(0, "a")}, {line(0, ""), line(0, "")},
		{line(0, "hosts"), line(0, "bindings")}, {line(0, "hosts"), line(0, "hosts")}, {line(1, "hosts")}, {line(0, "hosts"), line(2, "a")},
		{line(0, "hosts"), line(1, "b"), line(1, "a")}, {line(0, "hosts"), line(1, "a"), line(2, "ip"), line(3, "10.0.0.1"), line(3, "10.0.0.1")},
		{line(0, "hosts"), signed(1, "a", 4), line(2, "ip"), line(3, "10.0.0.1")}, {line(0, "policy"), line(1, "10"), line(1, "1")},
		flat(201), append(flat(200), line(1, "a")), allMarked(flat(201), 1), make([]api.Line, 201), under(flat(200), "vnis"),
		append(read(t, right), line(0, "hosts")), append(read(t, right), line(3, fortyOne)), append(list(line(1, "x")), read(t, right)...),
	} {
		refused(t, x)
	}
}

// a place of the table: the path up to a word W of a type, the paths of a tree without faults that has it there, and what stands beside it where W is none.
type place struct {
	kind, path   string
	good, beside []string
}

// places are those of all rows.
func places() []place {
	host, net := "hosts a ip 10.0.0.1", "vnis 5 subnet 0.0.0.0/0"
	return []place{
		{"$name", "hosts W", []string{"hosts W ip 10.0.0.1"}, nil},
		{"$ip", "hosts a ip W", []string{"hosts a ip W"}, nil},
		{"$mac", "hosts a mac W", []string{host, "hosts a mac W"}, []string{host}},
		{"$vni", "hosts a vnis W", []string{host, "hosts a vnis W", "vnis W subnet 0.0.0.0/0"}, []string{host, net}},
		{"$vni", "vnis W", []string{"vnis W subnet 0.0.0.0/0"}, nil},
		{"$prefix", "vnis 5 subnet W", []string{"vnis 5 subnet W"}, nil},
		{"$ip", "bindings W", []string{"bindings W host a", "bindings W mac 00:00:00:00:00:09", "bindings W vni 5", host, net}, nil},
		{"$name", "bindings 10.0.0.9 host W", []string{"bindings 10.0.0.9 host W", "bindings 10.0.0.9 mac 00:00:00:00:00:09", "bindings 10.0.0.9 vni 5", "hosts W ip 10.0.0.1", net},
			[]string{"bindings 10.0.0.9 mac 00:00:00:00:00:09", "bindings 10.0.0.9 vni 5", net}},
		{"$mac", "bindings 10.0.0.9 mac W", []string{"bindings 10.0.0.9 mac W", "bindings 10.0.0.9 host a", "bindings 10.0.0.9 vni 5", host, net},
			[]string{"bindings 10.0.0.9 host a", "bindings 10.0.0.9 vni 5", host, net}},
		{"$vni", "bindings 10.0.0.9 vni W", []string{"bindings 10.0.0.9 vni W", "bindings 10.0.0.9 host a", "bindings 10.0.0.9 mac 00:00:00:00:00:09", host, "vnis W subnet 10.0.0.0/24"},
			[]string{"bindings 10.0.0.9 host a", "bindings 10.0.0.9 mac 00:00:00:00:00:09", host}},
		{"$prefix", "routes W", []string{"routes W via a", host}, nil},
		{"$name", "routes 0.0.0.0/0 via W", []string{"routes 0.0.0.0/0 via W", "hosts W ip 10.0.0.1"}, nil},
		{"$metric", "routes 0.0.0.0/0 metric W", []string{"routes 0.0.0.0/0 metric W", "routes 0.0.0.0/0 via a", host}, []string{"routes 0.0.0.0/0 via a", host}},
		{"$num", "policy W", []string{"policy W action deny"}, nil},
		{"$action", "policy 7 action W", []string{"policy 7 action W"}, nil},
		{"$prefix", "policy 7 from W", []string{"policy 7 from W", "policy 7 action deny"}, []string{"policy 7 action deny"}},
		{"$prefix", "policy 7 to W", []string{"policy 7 to W", "policy 7 action deny"}, []string{"policy 7 action deny"}},
	}
}

// with reads paths, with a word in the place of W.
func with(w string, texts ...string) [][]string {
	var out [][]string
	for _, s := range texts {
		p := words(s)
		for i := range p {
			if p[i] == "W" {
				p[i] = w
			}
		}
		out = append(out, p)
	}
	return out
}

// P13.1: each row, with each word of its type.
func TestRowsRight(t *testing.T) {
	tells(t, right)
	for i, p := range places() {
		if r := tableRows[i]; r.second[len(r.second)-1] != p.kind {
			t.Fatalf("%s is not at the row %s", p.path, r.second)
		}
		for _, w := range goodOf(p.kind) {
			finds(t, of(t, with(w, p.good...)...), nil)
		}
	}
}

// P13.1: each row, with words that are none of its type, with and without lines under them, right ones and wrong ones.
func TestRowsWrong(t *testing.T) {
	for _, p := range places() {
		for _, w := range badOf(p.kind) {
			at := with(w, p.path)[0]
			want := []Fault{{at, api.ErrForm}}
			finds(t, of(t, append(with(w, p.beside...), at)...), want)
			for _, below := range [][]string{{"zz"}, {"ip", "10.0.0.1"}, {""}, {"ip"}, {"host"}, {"W", "W", "W"}, {w, w, w, w, w, w, w}} {
				finds(t, of(t, append(with(w, p.beside...), at, slices.Concat(at, below))...), want)
			}
			all := append(with(w, p.beside...), at)
			for _, s := range with(w, p.good...) {
				if len(s) > len(at) && slices.Equal(s[:len(at)], at) {
					all = append(all, s)
				}
			}
			finds(t, of(t, all...), want)
		}
	}
}

// P13.1: words that no row names, at each Depth, with and without lines under them.
func TestNoRow(t *testing.T) {
	x := read(t, right)
	inner := map[int][]string{
		0: {"host", "hostss", "Hosts", "HOSTS", "vni", "binding", "route", "policies", "ip", "a", "1", "10.0.0.1", "groups", "apply", "$name", "hosts ", " hosts", "hosts;", "", "*", "\x00", "\xff", forty},
		2: {"ips", "i", "IP", "Mac", "vnis5", "vnis ", "subnets", "vias", "Via", "actions", "fro", "too", "a", "1", "$ip", "hosts", "", "*", "\xff", forty},
		4: {"a", "1", "ip", "10.0.0.1", "$ip", "hosts", "", "*", "\xff", forty},
	}
	all := append(pathsOf(x), nil)
	many := 0
	for _, p := range all {
		if len(p)%2 == 1 {
			continue
		}
		for _, w := range inner[len(p)] {
			at := append(slices.Clone(p), w)
			want := []Fault{{at, api.ErrNone}}
			y, e := lines.Add(x, at)
			if e != api.OK {
				t.Fatal(e)
			}
			finds(t, y, want)
			for _, below := range [][]string{{"a"}, {""}, {"hosts", "a", "ip", "10.0.0.1"}, {"ip", "x"}, {w, w, w, w, w, w, w, w}} {
				z, _ := lines.Add(y, slices.Concat(at, below))
				finds(t, z, want)
			}
			many++
		}
	}
	// Of what no row names right under a first statement the error is another one.
	if many != 23+20*7+10*14 {
		t.Errorf("only %d paths", many)
	}
	finds(t, chain(16), []Fault{{path("x"), api.ErrNone}})
	finds(t, under(chain(15), "hosts"), []Fault{{path("hosts", "x", "ip"), api.ErrArg}, {path("hosts", "x", "x"), api.ErrNone}})
	finds(t, under(chain(14), "vnis", "5"), []Fault{{path("vnis", "5", "subnet"), api.ErrArg}, {path("vnis", "5", "x"), api.ErrNone}})
}

// P13.1: what each first word says has no meaning under another one's.
func TestOtherRows(t *testing.T) {
	own := map[string]string{"hosts a": "ip mac vnis", "vnis 5": "subnet", "bindings 10.0.0.9": "host mac vni", "routes 0.0.0.0/0": "via metric", "policy 7": "action from to"}
	x := read(t, right)
	for at, mine := range own {
		for _, others := range own {
			for _, w := range words(others) {
				y, _ := lines.Add(x, append(words(at), w))
				if slices.Contains(words(mine), w) {
					finds(t, y, nil)
				} else {
					finds(t, y, []Fault{{append(words(at), w), api.ErrNone}})
				}
			}
		}
	}
	for _, c := range []struct{ text, fault string }{
		{"a { ip { 10.0.0.1; } }", "3 a"}, {"ip { 10.0.0.1; }", "3 ip"}, {"5 { subnet { 0.0.0.0/0; } }", "3 5"}, {"hosts { hosts { ip { 10.0.0.1; } } ip; }", "1 hosts ip ip"},
		{"vnis { a { ip { 10.0.0.1; } } }", "2 vnis a"}, {"hosts { 5 { subnet { 0.0.0.0/0; } } }", "2 hosts 5"}, {"policy { 10.0.0.9; }", "2 policy 10.0.0.9"},
		{"bindings { a { host { a; } } }", "2 bindings a"}, {"routes { 10.0.0.1 { via { a; } } }", "2 routes 10.0.0.1"}, {"policy { 16777215; }", "2 policy 16777215"},
	} {
		tells(t, c.text, c.fault)
	}
}

// P13.1: under words that are right, what is wrong is told; under those that are not, nothing is.
func TestUnder(t *testing.T) {
	for _, c := range []struct{ good, bad, wrong, below string }{
		{"hosts { a", "hosts { A", "hosts A", "ip { 10.0.0.1; } x { y; }"}, {"hosts { a", "hosts { 1", "hosts 1", "ip { 10.0.0.1; } x { y; }"},
		{"vnis { 5", "vnis { 0", "vnis 0", "subnet { 0.0.0.0/0; } x { y; }"}, {"vnis { 16777215", "vnis { 16777216", "vnis 16777216", "subnet { 0.0.0.0/0; } x { y; }"},
		{"routes { 10.0.0.0/8", "routes { 11.0.0.0/7", "routes 11.0.0.0/7", "via { a; } x { y; }"}, {"policy { 1", "policy { 0", "policy 0", "action { deny; } x { y; }"},
		{"policy { 1000", "policy { 1001", "policy 1001", "action { deny; } x { y; }"}, {"bindings { 1.1.1.1", "bindings { 1.1.1", "bindings 1.1.1", "host { a; } mac { 00:00:00:00:00:00; } vni { 6; } x { y; }"},
	} {
		host, net := " hosts { a { ip { 10.0.0.2; } } }", " vnis { 6 { subnet { 0.0.0.0/0; } } }"
		if strings.HasPrefix(c.good, "hosts") {
			host = ""
		}
		if strings.HasPrefix(c.good, "vnis") {
			net = ""
		}
		tells(t, c.good+" { "+c.below+" } }"+host+net, "3 "+strings.ReplaceAll(c.good, "{ ", "")+" x")
		tells(t, c.bad+" { "+c.below+" } }"+host+net, "2 "+c.wrong)
		tells(t, c.bad+"; }"+host+net, "2 "+c.wrong)
	}
}

// P13.1: a statement with more words behind it.
func TestBehind(t *testing.T) {
	x := read(t, right)
	for _, p := range pathsOf(x) {
		if len(p) != 4 {
			continue
		}
		for _, w := range []string{"a", "", "1", "ip", p[3], "10.0.0.1", "permit"} {
			at := append(slices.Clone(p), w)
			y, _ := lines.Add(x, at)
			finds(t, y, []Fault{{at, api.ErrNone}})
			z, _ := lines.Add(y, append(slices.Clone(at), p...))
			finds(t, z, []Fault{{at, api.ErrNone}})
			two, _ := lines.Add(z, append(slices.Clone(p), "zz", "y"))
			finds(t, two, []Fault{{at, api.ErrNone}, {append(slices.Clone(p), "zz"), api.ErrNone}})
		}
	}
	tells(t, "hosts { a { ip { 10.0.0.1; } vnis { 5 { x; y; } } } } vnis { 5 { subnet { 0.0.0.0/0 { z; } } } }", "3 hosts a vnis 5 x", "3 hosts a vnis 5 y", "3 vnis 5 subnet 0.0.0.0/0 z")
}

// P13.1: each row that holds one, with nothing, with one line, with two and more under it, right ones and wrong ones.
func TestOne(t *testing.T) {
	macs, prefixes := path("00:00:00:00:00:01", "00:00:00:00:00:02"), path("10.0.0.0/24", "10.0.0.0/25")
	rows := 0
	for _, c := range []struct {
		at   string
		good []string
	}{
		{"hosts a ip", path("10.0.0.1", "10.0.0.3")}, {"hosts a mac", macs}, {"vnis 5 subnet", prefixes},
		{"bindings 10.0.0.9 host", path("a", "b")}, {"bindings 10.0.0.9 mac", macs}, {"bindings 10.0.0.9 vni", path("5", "6")},
		{"routes 0.0.0.0/0 via", path("a", "b")}, {"routes 0.0.0.0/0 metric", path("-0", "0")},
		{"policy 7 action", path("deny", "permit")}, {"policy 7 from", prefixes}, {"policy 7 to", prefixes},
	} {
		at, one, two := words(c.at), c.good[0], c.good[1]
		for _, r := range tableRows {
			if r.one && like(at, r.first) {
				rows++
			}
		}
		holds(t, at, nil, nil, api.ErrArg)
		holds(t, at, path(one), nil, api.OK)
		holds(t, at, path(two), nil, api.OK)
		holds(t, at, path(one, two), nil, api.ErrThere)
		for _, bad := range []string{"!", "~", "", "\xff", forty, "a a"} {
			holds(t, at, nil, path(bad), api.OK)
			holds(t, at, path(one), path(bad), api.ErrThere)
			holds(t, at, path(two), path(bad), api.ErrThere)
			holds(t, at, c.good, path(bad), api.ErrThere)
			holds(t, at, nil, path(bad, bad[:min(1, len(bad))]+"?"), api.ErrThere)
		}
		holds(t, at, c.good, path("!", "?", "zz zz", "~", "~~"), api.ErrThere)
	}
	if rows != 11 {
		t.Errorf("only %d rows", rows)
	}
}

// holds fails, unless of the tree that is right, with those words under one line, just these faults are told: the line's own error, and that of each bad word.
func holds(t *testing.T, at, good, bad []string, e api.Errno) {
	t.Helper()
	x := read(t, right)
	n, ok := tree.Find(x, at)
	if !ok {
		t.Fatalf("no line %q", at)
	}
	x = slices.Delete(x, n+1, tree.End(x, n))
	var want []Fault
	if e != api.OK {
		want = append(want, Fault{at, e})
	}
	for _, w := range slices.Sorted(slices.Values(slices.Concat(good, bad))) {
		p := append(slices.Clone(at), w)
		if slices.Contains(bad, w) {
			want = append(want, Fault{p, api.ErrForm})
		}
		x, _ = lines.Add(x, p)
	}
	finds(t, x, want)
}

// P13.1: rows that hold as many as are there.
func TestMany(t *testing.T) {
	tells(t, "hosts;")
	tells(t, "vnis;")
	tells(t, "bindings;")
	tells(t, "routes;")
	tells(t, "policy;")
	tells(t, "bindings; hosts; policy; routes; vnis;")
	tells(t, "hosts { a { ip { 10.0.0.1; } vnis; } }")
	tells(t, "hosts { a { ip { 10.0.0.1; } vnis { 1; 2; 3; } } b { ip { 10.0.0.2; } vnis { 1; } } } vnis { 1 { subnet { 0.0.0.0/0; } } 2 { subnet { 0.0.0.0/0; } } 3 { subnet { 0.0.0.0/0; } } 4 { subnet { 0.0.0.0/0; } } }")
	tells(t, "policy { 1 { action { permit; } } 2 { action { permit; } } 3 { action { deny; } to { 0.0.0.0/0; } } }")
	tells(t, "hosts { a { ip { 10.0.0.1; } } } routes { 0.0.0.0/0 { via { a; } } 10.0.0.0/8 { via { a; } } 10.0.0.0/9 { via { a; } metric { nan; } } }")
}

// P13.1: each word that a line needs, lacking, alone and with others, and there.
func TestNeeded(t *testing.T) {
	beside := " hosts { z { ip { 9.9.9.9; } } } vnis { 9 { subnet { 0.0.0.0/0; } } }"
	parts := []string{"host { z; }", "mac { 00:00:00:00:00:00; }", "vni { 9; }"}
	for set := range 8 {
		text, want := "", []string(nil)
		for i, s := range parts {
			if set>>i&1 == 1 {
				text += s
			} else {
				want = append(want, "1 bindings 1.1.1.1 "+words(s)[0])
			}
		}
		tells(t, "bindings { 1.1.1.1 { "+text+" } }"+beside, want...)
		tells(t, "bindings { 1.1.1.1 { "+text+" a; zz { y; } } }"+beside, append(want, "3 bindings 1.1.1.1 a", "3 bindings 1.1.1.1 zz")...)
		// A word that is there needs no more to be there; what it lacks is its own.
		for i, s := range parts {
			if set>>i&1 == 1 {
				tells(t, "bindings { 1.1.1.1 { "+strings.Replace(text, s, words(s)[0]+";", 1)+" } }"+beside, append(want, "1 bindings 1.1.1.1 "+words(s)[0])...)
			}
		}
	}
	for _, c := range []struct{ text, fault string }{
		{"hosts { a; }", "1 hosts a ip"}, {"hosts { a { mac { 00:00:00:00:00:00; } } }", "1 hosts a ip"}, {"hosts { a { vnis; } }", "1 hosts a ip"}, {"hosts { a { ip; } }", "1 hosts a ip"},
		{"hosts { a { vnis { 5; } mac { 00:00:00:00:00:00; } } } vnis { 5 { subnet { 0.0.0.0/0; } } }", "1 hosts a ip"}, {"hosts { a { ip { 1.1.1.1; } } b; c { ip { 1.1.1.2; } } }", "1 hosts b ip"},
		{"vnis { 5; }", "1 vnis 5 subnet"}, {"vnis { 5 { subnet; } }", "1 vnis 5 subnet"}, {"vnis { 5 { subnet { 0.0.0.0/0; } } 6; }", "1 vnis 6 subnet"},
		{"routes { 0.0.0.0/0; }", "1 routes 0.0.0.0/0 via"}, {"routes { 0.0.0.0/0 { metric { 1; } } }", "1 routes 0.0.0.0/0 via"}, {"routes { 0.0.0.0/0 { via; } }", "1 routes 0.0.0.0/0 via"},
		{"policy { 7; }", "1 policy 7 action"}, {"policy { 7 { from { 0.0.0.0/0; } to { 0.0.0.0/0; } } }", "1 policy 7 action"}, {"policy { 7 { action; } }", "1 policy 7 action"},
		{"policy { 7 { action { deny; } } 8 { from { 0.0.0.0/0; } } }", "1 policy 8 action"},
	} {
		tells(t, c.text, c.fault)
	}
	tells(t, "hosts { a; b; c { mac; } }", "1 hosts a ip", "1 hosts b ip", "1 hosts c ip", "1 hosts c mac")
	tells(t, "hosts { a { Ip { 10.0.0.1; } ip2; x { ip { 10.0.0.1; } } } }", "1 hosts a ip", "3 hosts a Ip", "3 hosts a ip2", "3 hosts a x")
}

// P13.1: hosts of one ip, and what is none.
func TestTaken(t *testing.T) {
	for _, c := range []struct {
		text   string
		faults []string
	}{
		{"hosts { a { ip { 1.1.1.1; } } b { ip { 1.1.1.2; } } c { ip { 1.1.1.3; } } }", nil},
		{"hosts { a { ip { 1.1.1.1; } } b { ip { 1.1.1.1; } } }", path("7 hosts b ip 1.1.1.1")},
		{"hosts { a { ip { 1.1.1.1; } } b { ip { 1.1.1.1; } } c { ip { 1.1.1.1; } } }", path("7 hosts b ip 1.1.1.1", "7 hosts c ip 1.1.1.1")},
		{"hosts { a { ip { 1.1.1.1; } } b { ip { 1.1.1.2; } } c { ip { 1.1.1.1; } } d { ip { 1.1.1.2; } } }", path("7 hosts c ip 1.1.1.1", "7 hosts d ip 1.1.1.2")},
		{"hosts { a { ip { 1.1.1.2; 1.1.1.1; } } }", path("4 hosts a ip")},
		{"hosts { a { ip { 1.1.1.2; 1.1.1.1; } } b { ip { 1.1.1.1; } } c { ip { 1.1.1.2; } } }", path("4 hosts a ip", "7 hosts b ip 1.1.1.1", "7 hosts c ip 1.1.1.2")},
		{"hosts { a { ip { 1.1.1.1; } } b { ip { 1.1.1.2; 1.1.1.1; } } }", path("4 hosts b ip", "7 hosts b ip 1.1.1.1")},
		{"hosts { a { ip { 1.1.1.1; 1.1.1.2; } } b { ip { 1.1.1.2; 1.1.1.1; } } }", path("4 hosts a ip", "4 hosts b ip", "7 hosts b ip 1.1.1.1", "7 hosts b ip 1.1.1.2")},
		{"hosts { a { ip { 1.1.1.1; 1.1.1.01; } } b { ip { 1.1.1.01; } } }", path("4 hosts a ip", "2 hosts a ip 1.1.1.01", "2 hosts b ip 1.1.1.01")},
		// None of these is the ip of a host.
		{"hosts { A { ip { 1.1.1.1; } } b { ip { 1.1.1.1; } } }", path("2 hosts A")},
		{"hosts { a { ip { 1.1.1.1; } } b { ip { 1.1.1.2; } mac { 1.1.1.1; } } c { ip { 1.1.1.3; } vnis { 1.1.1.1; } } }", path("2 hosts b mac 1.1.1.1", "2 hosts c vnis 1.1.1.1")},
		{"hosts { a { ip { 1.1.1.1; } mac { 1.1.1.2; } vnis { 1.1.1.3; } } b { ip { 1.1.1.2; } } c { ip { 1.1.1.3; } } }", path("2 hosts a mac 1.1.1.2", "2 hosts a vnis 1.1.1.3")},
		{"a { b { ip { 1.1.1.1; } } } hosts { b { ip { 1.1.1.1; } } }", path("3 a")}, {"hosts { a { ip { 1.1.1.1; } } } host { a { ip { 1.1.1.1; } } }", path("3 host")},
		{"hosts { 1.1.1.1; b { ip { 1.1.1.1; } } }", path("2 hosts 1.1.1.1")}, {"1.1.1.1; hosts { b { ip { 1.1.1.1; } } }", path("3 1.1.1.1")},
		{"hosts { a { 1.1.1.1; ip { 1.1.1.2 { 1.1.1.3; } } } b { ip { 1.1.1.1; } } c { ip { 1.1.1.3; } } }", path("3 hosts a 1.1.1.1", "3 hosts a ip 1.1.1.2 1.1.1.3")},
		{"bindings { 1.1.1.1 { host { b; } mac { 00:00:00:00:00:00; } vni { 5; } } 2.2.2.2 { host { 1.1.1.1; } mac { 1.1.1.1; } vni { 1.1.1.1; } } } hosts { b { ip { 1.1.1.1; } } } vnis { 5 { subnet { 0.0.0.0/0; } } }",
			path("2 bindings 2.2.2.2 host 1.1.1.1", "2 bindings 2.2.2.2 mac 1.1.1.1", "2 bindings 2.2.2.2 vni 1.1.1.1")},
	} {
		tells(t, c.text, c.faults...)
	}
}

// P13.1: bindings and routes of hosts that are there, and of those that are not.
func TestHosts(t *testing.T) {
	for _, c := range []struct {
		hosts string
		there bool
		more  []string
	}{
		{"hosts { a { ip { 9.9.9.9; } } }", true, nil}, {"hosts { 1; a { ip { 9.9.9.9; } } b { ip { 9.9.9.8; } } }", true, path("2 hosts 1")},
		// A line is there whatever stands under it, or does not.
		{"hosts { a; }", true, path("1 hosts a ip")}, {"hosts { a { x; } }", true, path("1 hosts a ip", "3 hosts a x")}, {"hosts { a { ip { no; } } }", true, path("2 hosts a ip no")},
		{"", false, nil}, {"hosts;", false, nil}, {"hosts { aa { ip { 9.9.9.9; } } }", false, nil}, {"hosts { A; }", false, path("2 hosts A")}, {"hosts { \"a \"; }", false, nil},
		// Further down, or elsewhere, no host stands.
		{"hosts { b { ip { 9.9.9.9; } a; } }", false, path("3 hosts b a")}, {"hosts { b { a; ip { 9.9.9.9 { a; } } } }", false, path("3 hosts b a", "3 hosts b ip 9.9.9.9 a")},
		{"hosts { B { hosts { a { ip { 9.9.9.9; } } } } }", false, path("2 hosts B")}, {"groups { g { hosts { a { ip { 9.9.9.9; } } } } }", false, path("3 groups")}, {"host { a; }", false, path("3 host")},
	} {
		x := read(t, "bindings { 1.1.1.1 { host { a; } mac { 00:00:00:00:00:00; } vni { 9; } } } "+c.hosts+" routes { 0.0.0.0/0 { via { a; } } } vnis { 9 { subnet { 0.0.0.0/0; } } }")
		var want []Fault
		if !c.there {
			want = append(want, fault("7 bindings 1.1.1.1 host a"))
		}
		for _, s := range c.more {
			want = append(want, fault(s))
		}
		if strings.Contains(c.hosts, "\"") {
			want = append(want, Fault{path("hosts", "a "), api.ErrForm})
		}
		if !c.there {
			want = append(want, fault("7 routes 0.0.0.0/0 via a"))
		}
		finds(t, x, want)
	}
	tells(t, "bindings { 1.1.1.1 { host { a; b; c; } mac { 00:00:00:00:00:00; } vni { 9; } } } hosts { b { ip { 9.9.9.9; } } } vnis { 9 { subnet { 0.0.0.0/0; } } }",
		"4 bindings 1.1.1.1 host", "7 bindings 1.1.1.1 host a", "7 bindings 1.1.1.1 host c")
	tells(t, "routes { 0.0.0.0/0 { via { a; b; A; } } 1.0.0.0/8 { via { b; } } 2.0.0.0/8 { via { c; } } } hosts { b { ip { 9.9.9.9; } } }",
		"4 routes 0.0.0.0/0 via", "2 routes 0.0.0.0/0 via A", "7 routes 0.0.0.0/0 via a", "7 routes 2.0.0.0/8 via c")
}

// P13.1: networks of hosts and of bindings that are there, and that are not.
func TestNetworks(t *testing.T) {
	for _, c := range []struct {
		nets  string
		there bool
		more  []string
	}{
		{"vnis { 5 { subnet { 0.0.0.0/0; } } }", true, nil}, {"vnis { 5; }", true, path("1 vnis 5 subnet")}, {"vnis { 5 { x; } }", true, path("1 vnis 5 subnet", "3 vnis 5 x")}, {"vnis { 5 { subnet { no; } } }", true, path("2 vnis 5 subnet no")},
		{"", false, nil}, {"vnis;", false, nil}, {"vnis { 50 { subnet { 0.0.0.0/0; } } }", false, nil}, {"vnis { 05; }", false, path("2 vnis 05")}, {"vnis { 4 { subnet { 0.0.0.0/0; } 5; } }", false, path("3 vnis 4 5")},
		{"vnis { 0 { vnis { 5; } } }", false, path("2 vnis 0")}, {"vni { 5; }", false, path("3 vni")},
	} {
		binding := "bindings { 1.1.1.1 { host { a; } mac { 00:00:00:00:00:00; } vni { 5; } } } hosts { a { ip { 9.9.9.9; } "
		var absent, also []string
		if !c.there {
			absent, also = path("7 bindings 1.1.1.1 vni 5"), path("7 hosts a vnis 5")
		}
		tells(t, binding+"vnis { 5; } } } "+c.nets, slices.Concat(absent, also, c.more)...)
		tells(t, binding+"} } "+c.nets, slices.Concat(absent, c.more)...)
		tells(t, "hosts { a { ip { 9.9.9.9; } vnis { 5; } } } "+c.nets, slices.Concat(also, c.more)...)
	}
	tells(t, "hosts { a { ip { 9.9.9.9; } vnis { 1; 2; 3; 4; x; } } b { ip { 9.9.9.8; } vnis { 3; } } } vnis { 2 { subnet { 0.0.0.0/0; } } 4 { subnet { 0.0.0.0/0; } } }",
		"7 hosts a vnis 1", "7 hosts a vnis 3", "2 hosts a vnis x", "7 hosts b vnis 3")
	tells(t, "bindings { 1.1.1.1 { host { a; } mac { 00:00:00:00:00:00; } vni { 5; 6; 7; } } } hosts { a { ip { 9.9.9.9; } } } vnis { 6 { subnet { 0.0.0.0/0; } } 7 { subnet { 2.0.0.0/8; } } }",
		"4 bindings 1.1.1.1 vni", "7 bindings 1.1.1.1 vni 5", "7 bindings 1.1.1.1 vni 7")
}

// P13.1: bindings whose address is in the subnet of their network, is not, and has none.
func TestSubnets(t *testing.T) {
	in, out := []string(nil), path("7 bindings 10.0.0.9 vni 5")
	for _, c := range []struct {
		subnet string
		told   []string
		more   []string
	}{
		{"subnet { 0.0.0.0/0; }", in, nil}, {"subnet { 10.0.0.0/8; }", in, nil}, {"subnet { 10.0.0.8/29; }", in, nil}, {"subnet { 10.0.0.8/31; }", in, nil}, {"subnet { 10.0.0.9/32; }", in, nil},
		{"subnet { 10.0.0.8/32; }", out, nil}, {"subnet { 10.0.0.10/31; }", out, nil}, {"subnet { 10.0.0.0/29; }", out, nil}, {"subnet { 11.0.0.0/8; }", out, nil}, {"subnet { 128.0.0.0/1; }", out, nil}, {"subnet { 0.0.0.0/32; }", out, nil},
		// Where no prefix is said none is asked for.
		{"", in, path("1 vnis 5 subnet")}, {"subnet;", in, path("1 vnis 5 subnet")}, {"subnets { 11.0.0.0/8; }", in, path("1 vnis 5 subnet", "3 vnis 5 subnets")}, {"x { subnet { 11.0.0.0/8; } }", in, path("1 vnis 5 subnet", "3 vnis 5 x")},
		{"subnet { no; }", in, path("2 vnis 5 subnet no")}, {"subnet { 11.0.0.0; }", in, path("2 vnis 5 subnet 11.0.0.0")}, {"subnet { 11.0.0.1/8; }", in, path("2 vnis 5 subnet 11.0.0.1/8")}, {"subnet { no { 11.0.0.0/8; } }", in, path("2 vnis 5 subnet no")},
		// Of two the first one tells.
		{"subnet { 10.0.0.0/8; 11.0.0.0/8; }", in, path("4 vnis 5 subnet")}, {"subnet { 1.0.0.0/8; 10.0.0.0/8; }", out, path("4 vnis 5 subnet")}, {"subnet { 11.0.0.0/8; 9.0.0.0/8; }", out, path("4 vnis 5 subnet")},
		{"subnet { 10.0.0.1/8; 11.0.0.0/8; }", in, path("4 vnis 5 subnet", "2 vnis 5 subnet 10.0.0.1/8")}, {"subnet { 11.0.0.0/8; no; }", out, path("4 vnis 5 subnet", "2 vnis 5 subnet no")}, {"subnet { 10.0.0.0/8; no; }", in, path("4 vnis 5 subnet", "2 vnis 5 subnet no")},
		// A line that is no statement is still the first one, whatever stands under it.
		{"subnet { 11.0.0.0/8 { x; } }", out, path("3 vnis 5 subnet 11.0.0.0/8 x")}, {"a { b; } subnet { 11.0.0.0/8; } z;", out, path("3 vnis 5 a", "3 vnis 5 z")},
	} {
		host := "hosts { a { ip { 10.0.0.1; } } }"
		x := "bindings { 10.0.0.9 { host { a; } mac { 00:00:00:00:00:00; } vni { 5; } } } " + host + " vnis { 4 { subnet { 11.0.0.0/8; } } 5 { " + c.subnet + " } 6 { subnet { 11.0.0.0/8; } } }"
		tells(t, x, append(slices.Clone(c.told), c.more...)...)
		// The address of the host makes no difference, nor does what stands under another binding.
		tells(t, strings.ReplaceAll(x, "10.0.0.1; }", "11.0.0.1; }"), append(slices.Clone(c.told), c.more...)...)
		tells(t, strings.ReplaceAll(x, "bindings {", "bindings { 11.0.0.9 { host { a; } mac { 00:00:00:00:00:00; } vni { 6; } }"), append(slices.Clone(c.told), c.more...)...)
	}
	tells(t, "bindings { 10.0.0.1; 10.0.0.9 { host { a; } mac { 00:00:00:00:00:00; } vni { 5; 6; 7; } } no { vni { 6; } } } hosts { a { ip { 10.0.0.1; } } } vnis { 5 { subnet { 10.0.0.0/8; } } 6 { subnet { 9.0.0.0/8; } } 7 { subnet { 10.0.0.8/30; } } }",
		"1 bindings 10.0.0.1 host", "1 bindings 10.0.0.1 mac", "1 bindings 10.0.0.1 vni", "4 bindings 10.0.0.9 vni", "7 bindings 10.0.0.9 vni 6", "2 bindings no")
	// Hosts are asked for no subnet.
	tells(t, "hosts { a { ip { 10.0.0.1; } vnis { 5; } } } vnis { 5 { subnet { 11.0.0.0/8; } } }")
}

// P13.1: marks make no difference, each of them at each line.
func TestMarks(t *testing.T) {
	trees := [][]api.Line{read(t, right), read(t, "hosts { a { ip { 1.1.1.1; x; } vnis { 5; 6; } } b { ip { 1.1.1.1; } } c; D { e; } } policy { 7; 8 { action; } 0; } vnis { 5 { subnet { x; y; } } 6; } z { y; }"), chain(16), flat(200)}
	for seed := range 40 {
		trees = append(trees, anyTree(seed))
	}
	for _, x := range trees {
		want := checkAgain(allMarked(x, 0))
		for mark := range 4 {
			finds(t, allMarked(x, mark), want)
			for i := range x {
				finds(t, withMark(x, i, mark), want)
			}
		}
	}
}

// P13.1: the same faults at the first line and at the last one.
func TestFirstAndLast(t *testing.T) {
	tells(t, "a;", "3 a")
	tells(t, "a; hosts; z;", "3 a", "3 z")
	tells(t, "a { b; } hosts; z { y; }", "3 a", "3 z")
	tells(t, "hosts { A; a { ip { 1.1.1.1; } } \"~\"; }", "2 hosts A", "2 hosts ~")
	tells(t, "hosts { a; b { ip { 1.1.1.1; } } c; }", "1 hosts a ip", "1 hosts c ip")
	tells(t, "hosts { a { ip; } b { ip { 1.1.1.1; } } c { ip; } }", "1 hosts a ip", "1 hosts c ip")
	tells(t, "hosts { a { ip { 1.1.1.1; 1.1.1.2; } } b { ip { 1.1.1.3; } } c { ip { 1.1.1.4; 1.1.1.5; } } }", "4 hosts a ip", "4 hosts c ip")
	tells(t, "hosts { a { vnis { 5; } } b { vnis { 5; } } }", "1 hosts a ip", "7 hosts a vnis 5", "1 hosts b ip", "7 hosts b vnis 5")
	tells(t, "bindings { 1.1.1.1 { host { a; } mac { 00:00:00:00:00:00; } vni { 5; } } 2.2.2.2 { host { a; } mac { 00:00:00:00:00:00; } vni { 5; } } }",
		"7 bindings 1.1.1.1 host a", "7 bindings 1.1.1.1 vni 5", "7 bindings 2.2.2.2 host a", "7 bindings 2.2.2.2 vni 5")
	tells(t, "hosts { z { ip { 1.1.1.1; } } zz { ip { 1.1.1.1; } } }", "7 hosts zz ip 1.1.1.1")
	tells(t, "routes { 0.0.0.0/0 { via { a; } } 9.0.0.0/8 { via { a; } } }", "7 routes 0.0.0.0/0 via a", "7 routes 9.0.0.0/8 via a")
}

// P13.1: the order of faults is the order of the lines; in one line it is that of the table.
func TestOrder(t *testing.T) {
	tells(t, "a; bindings { 1.1.1.1 { mac; } 1.1.1.2 { host { b { c; } A; } x; } no { x; } } hosts { a { ip { 1.1.1.1; } mac { 1; 2; } vnis { 5; a; 6; } } b { ip { 1.1.1.1; } z; } } policy { 7 { from; to { 1; } } } routes { 1.0.0.0/8 { metric; via { c; } } } vnis { 5 { subnet; } } z;",
		"3 a", "1 bindings 1.1.1.1 host", "1 bindings 1.1.1.1 vni", "1 bindings 1.1.1.1 mac", "1 bindings 1.1.1.2 mac", "1 bindings 1.1.1.2 vni", "4 bindings 1.1.1.2 host", "2 bindings 1.1.1.2 host A", "3 bindings 1.1.1.2 host b c",
		"3 bindings 1.1.1.2 x", "2 bindings no", "4 hosts a mac", "2 hosts a mac 1", "2 hosts a mac 2", "7 hosts a vnis 6", "2 hosts a vnis a", "7 hosts b ip 1.1.1.1", "3 hosts b z", "1 policy 7 action", "1 policy 7 from", "2 policy 7 to 1",
		"1 routes 1.0.0.0/8 metric", "7 routes 1.0.0.0/8 via c", "1 vnis 5 subnet", "3 z")
	tells(t, "bindings { 1.1.1.1; }", "1 bindings 1.1.1.1 host", "1 bindings 1.1.1.1 mac", "1 bindings 1.1.1.1 vni")
}

// P13.1: trees of 200 lines, the most there may be, with no fault, with as many as there are lines, and with more; and of 201.
func TestMost(t *testing.T) {
	var none []Fault
	for i := range 200 {
		none = append(none, Fault{path(flatWord(i)), api.ErrNone})
	}
	finds(t, flat(200), none)
	refused(t, flat(201))
	finds(t, under(flat(199), "x"), []Fault{{path("x"), api.ErrNone}})
	var paths [][]string
	var lacks, twice []Fault
	for i := range 66 {
		paths = append(paths, path("policy", strconv.Itoa(i+1), "action", "deny"))
	}
	x := append(of(t, paths...), line(0, "routes"))
	finds(t, x, nil)
	if len(x) != 200 {
		t.Fatalf("%d lines", len(x))
	}
	refused(t, append(x, line(0, "vnis")))
	x[199].Word = "q"
	finds(t, x, []Fault{{path("q"), api.ErrNone}})
	x = list(line(0, "hosts"))
	for i := range 199 {
		x = append(x, line(1, flatWord(i)))
		lacks = append(lacks, Fault{path("hosts", flatWord(i), "ip"), api.ErrArg})
	}
	finds(t, x, lacks)
	refused(t, append(x, line(0, "vnis")))
	x = list(line(0, "hosts"))
	for i := range 66 {
		x = append(x, line(1, flatWord(i)), line(2, "ip"), line(3, "1.1.1.1"))
		twice = append(twice, Fault{path("hosts", flatWord(i), "ip", "1.1.1.1"), api.ErrCheck})
	}
	x = append(x, line(0, "zz"))
	finds(t, x, append(twice[1:], Fault{path("zz"), api.ErrNone}))
	x, none = list(line(0, "bindings")), nil
	for i := range 199 {
		w := "10.0.0." + strconv.Itoa(i)
		x = append(x, line(1, w))
	}
	slices.SortFunc(x[1:], func(a, b api.Line) int { return strings.Compare(a.Word, b.Word) })
	for _, l := range x[1:] {
		for _, w := range path("host", "mac", "vni") {
			none = append(none, Fault{path("bindings", l.Word, w), api.ErrArg})
		}
	}
	finds(t, x, none)
}

// P13.1: each type at its words and at those that are none, and at the words of each other one.
func TestTypes(t *testing.T) {
	for _, kind := range kinds {
		for _, w := range goodOf(kind) {
			is(t, kind, w, true)
		}
		for _, w := range badOf(kind) {
			is(t, kind, w, false)
		}
		for _, other := range kinds {
			for _, w := range append(goodOf(other), badOf(other)...) {
				is(t, kind, w, typeAgain(kind, w))
				for _, s := range path(w+" ", " "+w, w+w, w+"\n", w+"\x00", "0"+w, "-"+w, strings.ToUpper(w), w[:len(w)/2]) {
					is(t, kind, s, typeAgain(kind, s))
				}
			}
		}
		for _, w := range path("", fortyOne, strings.Repeat("1", 100000), "\xff\xfe", "\u0661", "\uff11") {
			is(t, kind, w, false)
		}
	}
}

// P13.1: kinds that are none take no word.
func TestNoTypes(t *testing.T) {
	others := path("", "$", "$$", "$Name", "$names", "$nam", "$name ", " $name", "$$name", "name$", "$hosts", "$host", "$word", "$vnis", "$subnet", "hosts", "host", "via", "*", "\x00", "\xff", forty, strings.Repeat("$", 100000))
	for _, kind := range kinds {
		others = append(others, kind[1:], strings.ToUpper(kind), kind+"$", kind+kind)
	}
	for _, other := range others {
		for _, kind := range kinds {
			for _, w := range append(goodOf(kind), "", other, kind, kind[1:]) {
				is(t, other, w, false)
			}
		}
	}
}

// P13.1: names of each length and of each byte.
func TestNames(t *testing.T) {
	for n := range 60 {
		is(t, "$name", strings.Repeat("a", n), n >= 1 && n <= 16)
		is(t, "$name", "a"+strings.Repeat("-", n), n <= 15)
		is(t, "$name", "z"+strings.Repeat("0", n), n <= 15)
	}
	for c := range 256 {
		b := string([]byte{byte(c)})
		letter := c >= 'a' && c <= 'z'
		other := letter || c >= '0' && c <= '9' || c == '-'
		is(t, "$name", b, letter)
		is(t, "$name", b+"a", letter)
		for _, w := range path("a"+b, "a"+b+"a", "abc-"+b, "a00000000000000"+b, "z"+strings.Repeat(b, 15)) {
			is(t, "$name", w, other)
		}
		is(t, "$name", "abcdefghijklmnop"+b, false)
		for _, kind := range kinds {
			for _, w := range path(b, b+"1", "1"+b, "1"+b+"1", "1.1.1."+b, "0.0.0.0/"+b, "0.0.0.0"+b+"0", "00:00:00:00:00:0"+b, "den"+b, b+"permit", "permit"+b) {
				is(t, kind, w, typeAgain(kind, w))
			}
		}
	}
}

// P13.1: numbers of networks and of lines of policy, each of the small ones, and those around the greatest ones.
func TestNumbers(t *testing.T) {
	for _, n := range []int{-1000, 0, 16776000, 1<<24 - 1000, 1 << 31, 1 << 32, 9999999999 - 500} {
		for i := n; i < n+2000; i++ {
			w := strconv.Itoa(i)
			is(t, "$vni", w, i >= 1 && i <= 16777215)
			is(t, "$num", w, i >= 1 && i <= 1000)
			is(t, "$vni", "0"+w, false)
			is(t, "$num", "0"+w, false)
		}
	}
	for n := 1; n < 1<<62; n *= 2 {
		for _, i := range []int{n - 1, n, n + 1, -n} {
			is(t, "$vni", strconv.Itoa(i), i >= 1 && i <= 16777215)
			is(t, "$num", strconv.Itoa(i), i >= 1 && i <= 1000)
		}
	}
}

// filled is a path of the table, with the n-th word of its type for each $.
func filled(row []string, n int) []string {
	p := slices.Clone(row)
	for i, w := range p {
		if w[0] == '$' {
			p[i] = goodOf(w)[n%len(goodOf(w))]
		}
	}
	return p
}

// P13.1: what a line of each path of the table needs.
func TestNeeds(t *testing.T) {
	needs := map[string][]string{"hosts $name": {"ip"}, "vnis $vni": {"subnet"}, "bindings $ip": {"host", "mac", "vni"}, "routes $prefix": {"via"}, "policy $num": {"action"}}
	for _, r := range tableRows {
		for n := range 20 {
			need(t, filled(r.first, n), needs[strings.Join(r.first, " ")]...)
			need(t, filled(r.second, n), needs[strings.Join(r.second, " ")]...)
			need(t, append(filled(r.second, n), "x"))
		}
		// With a $ for a word of its own a path is no statement.
		need(t, r.first)
		need(t, r.second)
	}
	for at, needed := range needs {
		top, kind, _ := strings.Cut(at, " ")
		for _, w := range goodOf(kind) {
			need(t, path(top, w), needed...)
			for _, p := range [][]string{{top, w, "x"}, {top, w, ""}, {"x", top, w}, {top, top, w}, {w, top}, {w}, {top + " " + w}, {strings.ToUpper(top), w}, {top + " ", w}, {"", w}} {
				need(t, p, needsAgain(p)...)
			}
			for _, s := range needed {
				need(t, path(top, w, s))
			}
		}
		for _, w := range badOf(kind) {
			need(t, path(top, w))
			need(t, path(top, w, w))
		}
	}
}

// needsAgain says the chapter's words of what is needed again.
func needsAgain(p []string) []string {
	var out []string
	for _, r := range tableRows {
		last := len(r.first) - 1
		if r.needed && like(p, r.first[:last]) {
			out = append(out, r.first[last])
		}
	}
	return out
}

// P13.1: paths of each length that are no statement, and no words at all.
func TestNeedsNone(t *testing.T) {
	need(t, nil)
	need(t, path())
	for _, s := range []string{"x", "x y", "x y z", "hosts A", "hosts a b", "hosts a b c", "hosts a ip no", "hosts a ip 10.0.0.1 x", "policy 0", "policy 1001", "vnis 16777216", "vnis a", "host a", "groups g", "bindings a", "routes 10.0.0.1", "ip", "a ip", "$name", "hosts $name", "hosts *"} {
		need(t, words(s))
	}
	all := path("", "hosts", "vnis", "a", "ip", "10.0.0.1", "5", "x", "\xff", fortyOne)
	for n := range 60 {
		for _, w := range all {
			for _, top := range all {
				p := append(path(top), slices.Repeat(path(w), n)...)
				need(t, p, needsAgain(p)...)
			}
		}
	}
	need(t, slices.Repeat(path("hosts", "a"), 500000))
	need(t, path("hosts", strings.Repeat("a", 1<<24)))
}

// dice answers a function that tells numbers below one, the same ones at each run.
func dice(seed int) func(below int) int {
	number := uint32(seed)*2654435761 + 12345
	return func(below int) int {
		number = number*1664525 + 1013904223
		return int(number>>16) % below
	}
}

// someWord is a word of a type, one of a few, so that lines meet one another; seldom, one that is none.
func someWord(kind string, next func(int) int) string {
	few := map[string][]string{
		"$name": {"a", "b", "c", "d", "e-1"}, "$ip": {"10.0.0.1", "10.0.0.2", "10.0.0.200", "10.1.0.1", "11.0.0.1"}, "$prefix": {"10.0.0.0/24", "10.0.0.0/30", "10.0.0.0/8", "0.0.0.0/0", "11.0.0.1/32"},
		"$mac": {"00:00:00:00:00:01", "00:00:00:00:00:02"}, "$vni": {"1", "2", "3"}, "$num": {"1", "2", "10", "1000"}, "$metric": {"0", "-0", "1.5", "inf", "nan"}, "$action": {"permit", "deny"},
	}[kind]
	if next(24) == 0 {
		few = badOf(kind)
	}
	return few[next(len(few))]
}

// otherWord is a word of a type, one of many.
func otherWord(kind string, next func(int) int) string {
	n := strconv.Itoa(1 + next(60))
	w := map[string]string{"$name": "n" + n, "$ip": "10.0.0." + n, "$prefix": "10." + n + ".0.0/16", "$vni": n, "$num": n}[kind]
	if w == "" {
		return someWord(kind, next)
	}
	return w
}

// anyTree is one of all kinds of lines, most of them statements, up to as many as there may be, a few of them marked.
func anyTree(seed int) []api.Line {
	next := dice(seed)
	most, word := 1+seed%80, someWord
	if seed%5 == 0 {
		most, word = 200, otherWord
	}
	var t []api.Line
	for range next(most) {
		p := slices.Clone(tableRows[next(len(tableRows))].second)
		for i, w := range p {
			if w[0] == '$' {
				p[i] = word(w, next)
			} else if next(40) == 0 {
				p[i] = path("x", "ip", "hosts", "", "zz", "vnis")[next(6)]
			}
		}
		switch next(12) {
		case 0:
			p = p[:1+next(len(p))]
		case 1:
			p = append(p, path("x", "ip", "10.0.0.1")[next(3)])
		}
		t, _ = lines.Add(t, p)
	}
	for i := range t {
		if next(10) == 0 {
			t[i].Mark = next(4)
		}
	}
	return t
}

// rightTree is one without faults, with some hosts, networks, bindings, routes and lines of policy.
func rightTree(t *testing.T, seed int) []api.Line {
	t.Helper()
	next := dice(seed)
	var p [][]string
	tell := func(words ...string) { p = append(p, words) }
	hosts, nets := 1+next(6), 1+next(3)
	for i := range hosts {
		name := "h" + strconv.Itoa(i)
		tell("hosts", name, "ip", "192.168.0."+strconv.Itoa(i))
		if next(2) == 0 {
			tell("hosts", name, "mac", fmt.Sprintf("00:00:00:00:01:%02x", i))
		}
		for v := range next(nets + 1) {
			tell("hosts", name, "vnis", strconv.Itoa(v+1))
		}
	}
	for v := range nets {
		tell("vnis", strconv.Itoa(v+1), "subnet", "10."+strconv.Itoa(v)+".0.0/16")
	}
	for i := range next(8) {
		v := next(nets)
		at := "10." + strconv.Itoa(v) + ".0." + strconv.Itoa(i)
		tell("bindings", at, "host", "h"+strconv.Itoa(next(hosts)))
		tell("bindings", at, "mac", fmt.Sprintf("00:00:00:00:02:%02x", i))
		tell("bindings", at, "vni", strconv.Itoa(v+1))
	}
	for i := range next(5) {
		at := strconv.Itoa(i) + ".0.0.0/8"
		tell("routes", at, "via", "h"+strconv.Itoa(next(hosts)))
		if next(2) == 0 {
			tell("routes", at, "metric", goodOf("$metric")[next(10)])
		}
	}
	for i := range next(5) {
		at := strconv.Itoa(i*i + 1)
		tell("policy", at, "action", goodOf("$action")[next(2)])
		if next(2) == 0 {
			tell("policy", at, path("from", "to")[next(2)], goodOf("$prefix")[next(8)])
		}
	}
	return of(t, p...)
}

// treesOf are all trees of up to n lines of some words.
func treesOf(n, deepest int, words ...string) [][]api.Line {
	var out [][]api.Line
	var grow func(t []api.Line)
	grow = func(t []api.Line) {
		if !tree.Right(t) {
			return
		}
		out = append(out, t)
		if len(t) == n {
			return
		}
		for d := range deepest + 1 {
			for _, w := range words {
				grow(append(slices.Clone(t), line(d, w)))
			}
		}
	}
	grow(nil)
	return out
}

// asSaid fails, unless Check answers what the chapter's words say, and what it tells has the form that it must have; it counts the errors that there were.
func asSaid(t *testing.T, x []api.Line, many map[api.Errno]int) {
	t.Helper()
	want := checkAgain(x)
	finds(t, x, want)
	all := pathsOf(x)
	for i, f := range want {
		many[f.E]++
		for n := 1; n < len(f.Path); n++ {
			if !statement(f.Path[:n]) {
				t.Errorf("%s: a fault under a line that is no statement, %s", short(x), short(f))
			}
		}
		// The line of a fault stands behind that of the one ahead, or is the same one.
		if i > 0 && lineOf(all, f.Path) < lineOf(all, want[i-1].Path) {
			t.Errorf("%s: %s ahead of %s", short(x), short(want[i-1]), short(f))
		}
	}
	if len(want) == 0 {
		many[api.OK]++
	}
}

// lineOf tells the place of the line that has a fault of that path: the line of the path, or, where there is none, the one that needs it.
func lineOf(all [][]string, p []string) int {
	for len(p) > 0 {
		if i := slices.IndexFunc(all, func(q []string) bool { return slices.Equal(q, p) }); i >= 0 {
			return i
		}
		p = p[:len(p)-1]
	}
	return -1
}

// P13.1: of many trees, small ones and big ones, are told the faults that the chapter's words say.
func TestEachTree(t *testing.T) {
	many := map[api.Errno]int{}
	for _, trees := range [][][]api.Line{treesOf(5, 3, "hosts", "a", "ip", "1.1.1.1"), treesOf(5, 2, "hosts", "a", "vnis", "5"), treesOf(5, 3, "vnis", "5", "subnet", "0.0.0.0/0"), treesOf(3, 2, "hosts", "policy", "7", "action", "routes", "1.1.1.1/32", "x"), treesOf(6, 3, "policy", "1")} {
		for _, x := range trees {
			asSaid(t, x, many)
		}
	}
	for seed := range 3000 {
		asSaid(t, anyTree(seed), many)
	}
	for _, e := range []api.Errno{api.ErrArg, api.ErrForm, api.ErrNone, api.ErrThere, api.ErrCheck} {
		if many[e] < 1000 || many[api.OK] < 100 {
			t.Errorf("only %v", many)
		}
	}
}

// P13.1: trees without faults have none; with one part gone, with one word changed, with one line more, they have those that the chapter's words say.
func TestNearRight(t *testing.T) {
	many := map[api.Errno]int{}
	for seed := range 20 {
		x := rightTree(t, seed)
		finds(t, x, nil)
		for i := range x {
			asSaid(t, slices.Delete(slices.Clone(x), i, tree.End(x, i)), many)
			for _, w := range path("a", "0", "10.0.0.77", "zz zz", "vni", "h0", "1", "", "9.0.0.0/8") {
				y := slices.Clone(x)
				y[i].Word = w
				if tree.Right(y) {
					asSaid(t, y, many)
				}
				p, _ := tree.Path(x, i)
				y, e := lines.Add(x, append(p, w))
				if e != api.OK {
					t.Fatal(e)
				}
				asSaid(t, y, many)
			}
		}
	}
	for _, e := range []api.Errno{api.OK, api.ErrArg, api.ErrForm, api.ErrNone, api.ErrThere, api.ErrCheck} {
		if many[e] < 300 {
			t.Errorf("only %v", many)
		}
	}
}

// ofPart tells the faults of a part of Depth 0 that are not ErrCheck.
func ofPart(l []Fault, top string) []Fault {
	return slices.DeleteFunc(slices.Clone(l), func(f Fault) bool { return f.E == api.ErrCheck || f.Path[0] != top })
}

// P13.2: what a part of Depth 0 has of faults it has whatever stands beside it, but for ErrCheck.
func TestParts(t *testing.T) {
	clean, checks := 0, 0
	for seed := range 400 {
		x := anyTree(seed + 100000)
		if seed%4 == 0 {
			x = rightTree(t, seed)
		}
		whole, e := Check(x)
		if e != api.OK {
			t.Fatalf("%s: %d", short(x), e)
		}
		for _, i := range tree.Kids(x, -1) {
			part := tree.Sub(x, i)
			alone, _ := Check(part)
			own := ofPart(alone, x[i].Word)
			if !sameFaults(ofPart(whole, x[i].Word), own) {
				t.Errorf("%s, in %s: %s, and %s", short(part), short(x), short(own), short(whole))
			}
			if len(own) == 0 {
				clean++
			}
			checks += len(alone) - len(own)
			beside(t, part, own, seed)
		}
	}
	if clean < 400 || checks < 200 {
		t.Errorf("only %d parts without faults, and %d faults that others make", clean, checks)
	}
}

// beside fails, unless a part has the same faults, but for ErrCheck, with the parts of other trees beside it.
func beside(t *testing.T, part []api.Line, own []Fault, seed int) {
	t.Helper()
	for n := range 5 {
		other := anyTree(200000 + seed*5 + n)
		var x []api.Line
		put := false
		for _, i := range tree.Kids(other, -1) {
			if !put && other[i].Word >= part[0].Word {
				x = append(x, part...)
				put = true
			}
			if other[i].Word != part[0].Word {
				x = append(x, tree.Sub(other, i)...)
			}
		}
		if !put {
			x = append(x, part...)
		}
		if len(x) > api.MaxLines {
			continue
		}
		got, e := Check(x)
		if e != api.OK || !sameFaults(ofPart(got, part[0].Word), own) {
			t.Errorf("%s, in %s: %s, %d; it should have %s", short(part), short(x), short(got), e, short(own))
		}
	}
}

// P13.2: what others make right, and wrong, is ErrCheck alone.
func TestOthers(t *testing.T) {
	part := "bindings { 10.0.0.9 { host { a; } mac { 00:00:00:00:00:09; } vni { 5; } } } "
	tells(t, part, "7 bindings 10.0.0.9 host a", "7 bindings 10.0.0.9 vni 5")
	tells(t, part+"hosts { a { ip { 10.0.0.1; } } }", "7 bindings 10.0.0.9 vni 5")
	tells(t, part+"vnis { 5 { subnet { 10.0.0.0/8; } } }", "7 bindings 10.0.0.9 host a")
	tells(t, part+"hosts { a { ip { 10.0.0.1; } } } vnis { 5 { subnet { 10.0.0.0/8; } } }")
	tells(t, part+"hosts { a { ip { 10.0.0.1; } } } vnis { 5 { subnet { 11.0.0.0/8; } } }", "7 bindings 10.0.0.9 vni 5")
	tells(t, "routes { 0.0.0.0/0 { via { a; } } }", "7 routes 0.0.0.0/0 via a")
	tells(t, "hosts { a { ip { 10.0.0.1; } vnis { 5; } } } routes { 0.0.0.0/0 { via { a; } } }", "7 hosts a vnis 5")
	tells(t, "policy { 7 { action { deny; } } }")
	tells(t, "policy { 7 { action { deny; } } } x; y { z; }", "3 x", "3 y")
}

// spare is a list with room behind it.
func spare[T any](l []T) []T { return append(make([]T, 0, len(l)+50), l...) }

// untouched: is it as it was, and all of that room, too?
func untouched[T comparable](l, was []T) bool {
	var zero T
	return slices.Equal(l, was) && !slices.ContainsFunc(l[len(l):cap(l)], func(x T) bool { return x != zero })
}

// sharing writes into the paths of all faults, into each one another word, and behind them, and tells whether two of them share any.
func sharing(l []Fault) bool {
	for i := range l {
		p := append(l[i].Path, "q")
		for k := range p {
			p[k] = fmt.Sprint(i)
		}
		l[i].Path = p
	}
	for i, f := range l {
		if slices.ContainsFunc(f.Path, func(w string) bool { return w != fmt.Sprint(i) }) {
			return true
		}
	}
	return false
}

// R1, R3, R4: what a call is handed stays as it was, and what it answers is memory of its own, no path of it shared with another one.
func TestShares(t *testing.T) {
	trees := [][]api.Line{nil, chain(16), chain(17), flat(200), flat(201), read(t, right), read(t, "bindings { 1.1.1.1; 1.1.1.2; } hosts { a { ip; mac { 1; 2; } } b; }")}
	for seed := range 300 {
		trees = append(trees, anyTree(seed))
	}
	for _, was := range trees {
		x := spare(was)
		got, e := Check(x)
		kept := slices.Clone(got)
		for i := range kept {
			kept[i].Path = slices.Clone(kept[i].Path)
		}
		if sharing(got) {
			t.Errorf("%s: two paths share their words", short(was))
		}
		clear(got)
		again, fault := Check(x)
		if !untouched(x, was) || e != fault || !sameFaults(again, kept) {
			t.Errorf("%s: something was written into", short(was))
		}
	}
	for _, r := range tableRows {
		for _, was := range [][]string{filled(r.first, 0), filled(r.second, 0), r.second} {
			p := spare(was)
			got := Needs(p)
			kept := slices.Clone(got)
			for i := range got {
				got[i] = "q"
			}
			if again := Needs(p); !untouched(p, was) || !slices.Equal(again, kept) {
				t.Errorf("%q: something was written into", was)
			}
		}
	}
}

// P1: long lists and long words end, too.
func TestEnds(t *testing.T) {
	long := make([]api.Line, 1000000)
	for i := range long {
		long[i] = line(i, "hosts")
	}
	for _, x := range [][]api.Line{long, slices.Repeat(flat(100), 10000), list(line(0, strings.Repeat("x", 1<<24)))} {
		refused(t, x)
	}
	big := strings.Repeat("a", 1<<24)
	for _, kind := range append(kinds, big, "") {
		is(t, kind, big, false)
		is(t, kind, strings.Repeat("1", 1<<24), false)
		is(t, kind, strings.Repeat("1.", 1<<23), false)
		is(t, kind, strings.Repeat("00:", 1<<23), false)
	}
}

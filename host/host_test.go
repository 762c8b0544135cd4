package host

import (
	"fmt"
	"math"
	"slices"
	"strconv"
	"strings"
	"sync"
	"testing"

	"ferryslip/api"
	"ferryslip/lines"
	"ferryslip/metric"
	"ferryslip/parse"
	"ferryslip/schema"
	"ferryslip/tree"
)

// kindNames are the tables' names, as the chapter has them, each at its number.
var kindNames = []string{"", "Flood", "ARP", "FDB", "Route", "Policy"}

// compareAgain says the chapter's words of the order again.
func compareAgain(a, b Entry) int {
	if a.Host != b.Host {
		return bytesAgain(a.Host, b.Host)
	}
	if a.Kind < b.Kind {
		return -1
	}
	if a.Kind > b.Kind {
		return 1
	}
	if a.Key != b.Key {
		return bytesAgain(a.Key, b.Key)
	}
	return bytesAgain(a.Value, b.Value)
}

// bytesAgain tells which of two words stands ahead, byte by byte.
func bytesAgain(a, b string) int {
	for i := 0; i < len(a) && i < len(b); i++ {
		if a[i] != b[i] {
			if a[i] < b[i] {
				return -1
			}
			return 1
		}
	}
	switch {
	case len(a) < len(b):
		return -1
	case len(a) > len(b):
		return 1
	}
	return 0
}

// setAgain takes the least entry that stands behind all that were taken, again and again.
func setAgain(l []Entry) []Entry {
	var out []Entry
	for {
		least := -1
		for i, x := range l {
			if len(out) > 0 && compareAgain(x, out[len(out)-1]) <= 0 {
				continue
			}
			if least < 0 || compareAgain(x, l[least]) < 0 {
				least = i
			}
		}
		if least < 0 {
			return out
		}
		out = append(out, l[least])
	}
}

// pathsOf tells the paths of all lines.
func pathsOf(t []api.Line) [][]string {
	var out [][]string
	var at []string
	for _, l := range t {
		at = append(at[:l.Depth:l.Depth], l.Word)
		out = append(out, at)
	}
	return out
}

// match tells, of each path that is like a text's words, what stands in the places of its stars, as one text each.
func match(paths [][]string, text string) [][]string {
	var out [][]string
	want := strings.Fields(text)
	for _, p := range paths {
		if len(p) != len(want) {
			continue
		}
		got, ok := []string{}, true
		for i, w := range want {
			if w == "*" {
				got = append(got, p[i])
			} else if w != p[i] {
				ok = false
			}
		}
		if ok {
			out = append(out, got)
		}
	}
	return out
}

// wordOf tells what stands in the place of a text's star, or another word, if no path is like it.
func wordOf(paths [][]string, text, otherwise string) string {
	for _, got := range match(paths, text) {
		return got[0]
	}
	return otherwise
}

// compileAgain says the chapter's words of the tables again, of a tree without faults: line by line, of each host and each pair of hosts.
func compileAgain(t []api.Line) []Entry {
	p := pathsOf(t)
	var all []Entry
	tell := func(h string, kind int, key, value string) { all = append(all, Entry{h, kind, key, value}) }
	address := func(g string) string { return wordOf(p, "hosts "+g+" ip *", "") }
	for _, one := range match(p, "hosts *") {
		h := one[0]
		for _, two := range match(p, "hosts * vnis *") {
			if g, v := two[0], two[1]; g != h && len(match(p, "hosts "+h+" vnis "+v)) == 1 {
				tell(h, Flood, v, address(g))
			}
		}
		for _, two := range match(p, "bindings * vni *") {
			i, v := two[0], two[1]
			if len(match(p, "hosts "+h+" vnis "+v)) == 0 {
				continue
			}
			mac, g := wordOf(p, "bindings "+i+" mac *", ""), wordOf(p, "bindings "+i+" host *", "")
			tell(h, ARP, v+" "+i, mac)
			if g != h {
				tell(h, FDB, v+" "+mac, address(g))
			}
		}
		for _, two := range match(p, "routes * via *") {
			next := address(two[1])
			if two[1] == h {
				next = "local"
			}
			tell(h, Route, two[0], next+" "+wordOf(p, "routes "+two[0]+" metric *", "0"))
		}
		for _, two := range match(p, "policy * action *") {
			n := "policy " + two[0]
			tell(h, Policy, two[0], two[1]+" "+wordOf(p, n+" from *", "any")+" "+wordOf(p, n+" to *", "any"))
		}
	}
	return setAgain(all)
}

// short writes what is told, as far as anybody reads on.
func short(x any) string { return fmt.Sprintf("%.600s", fmt.Sprintf("%q", fmt.Sprint(x))) }

// entry is one of a text: its Host, its table's name, its Key, and behind a = its Value.
func entry(text string) Entry {
	ahead, value, _ := strings.Cut(text, " = ")
	all := strings.SplitN(ahead, " ", 3)
	return Entry{all[0], slices.Index(kindNames, all[1]), all[2], value}
}

// entries are those of a text, a line each.
func entries(text string) []Entry {
	var l []Entry
	for row := range strings.Lines(text) {
		if row = strings.TrimSpace(row); row != "" {
			l = append(l, entry(row))
		}
	}
	return l
}

// line is one without marks.
func line(depth int, w string) api.Line { return api.Line{Depth: depth, Word: w} }

// flat has n lines of Depth 0.
func flat(n int) []api.Line {
	var t []api.Line
	for i := range n {
		t = append(t, line(0, fmt.Sprintf("%04d", i)))
	}
	return t
}

// read makes a tree of a text with braces.
func read(t *testing.T, s string) []api.Line {
	t.Helper()
	x, at, e := parse.Tree(s)
	if e != api.OK {
		t.Fatalf("%q: %d, %d", s, at, e)
	}
	return x
}

// of makes a tree of paths, each one a text.
func of(t *testing.T, paths ...string) []api.Line {
	t.Helper()
	var out []api.Line
	for _, p := range paths {
		x, e := lines.Add(out, strings.Fields(p))
		if e != api.OK {
			t.Fatalf("%q: %d", p, e)
		}
		out = x
	}
	return out
}

// allMarked is t with a mark at each line.
func allMarked(t []api.Line, mark int) []api.Line {
	t = slices.Clone(t)
	for i := range t {
		t[i].Mark = mark
	}
	return t
}

// answers fails, unless Compile answers those entries.
func answers(t *testing.T, x []api.Line, want []Entry) {
	t.Helper()
	if got, e := Compile(x); e != api.OK || !slices.Equal(got, want) {
		t.Errorf("%s: %s, %d; it should be %s", short(x), short(got), e, short(want))
	}
}

// tells fails, unless Compile answers, of a text with braces, those entries, whatever marks there are, and the chapter says the same.
func tells(t *testing.T, text, want string) {
	t.Helper()
	x, l := read(t, text), entries(want)
	for mark := range 4 {
		answers(t, allMarked(x, mark), l)
	}
	if again := compileAgain(x); !slices.Equal(again, l) {
		t.Errorf("%q: the chapter says %s, and not %s", text, short(again), short(l))
	}
}

// refused fails, unless Compile answers that error, and nothing beside it.
func refused(t *testing.T, x []api.Line, want api.Errno) {
	t.Helper()
	if got, e := Compile(x); e != want || len(got) != 0 {
		t.Errorf("%s: %s, %d; it should be %d", short(x), short(got), e, want)
	}
}

// stand fails, unless Compare answers that of two entries, and the opposite of them the other way round.
func stand(t *testing.T, a, b Entry, want int) {
	t.Helper()
	if got := Compare(a, b); got != want {
		t.Errorf("%.200q and %.200q: %d; it should be %d", fmt.Sprint(a), fmt.Sprint(b), got, want)
	}
	if got := Compare(b, a); got != -want {
		t.Errorf("%.200q and %.200q: %d; it should be %d", fmt.Sprint(b), fmt.Sprint(a), got, -want)
	}
}

// sets fails, unless Set answers those entries.
func sets(t *testing.T, l, want []Entry) {
	t.Helper()
	if got := Set(l); !slices.Equal(got, want) {
		t.Errorf("%s: %s; it should be %s", short(l), short(got), short(want))
	}
}

// dice answers a function that tells numbers below one, the same ones at each run.
func dice(seed int) func(below int) int {
	number := uint32(seed)*2654435761 + 12345
	return func(below int) int {
		number = number*1664525 + 1013904223
		return int(number>>16) % below
	}
}

// The tables' numbers are the chapter's.
func TestKinds(t *testing.T) {
	if Flood != 1 || ARP != 2 || FDB != 3 || Route != 4 || Policy != 5 {
		t.Errorf("%d, %d, %d, %d, %d", Flood, ARP, FDB, Route, Policy)
	}
}

// P14.1: equal entries are equal, whatever they have.
func TestCompareEqual(t *testing.T) {
	for _, a := range []Entry{{}, {"a", 1, "b", "c"}, {"", -7, "", ""}, {"\x00", math.MaxInt, "\xff", " "}, {"", 0, "k", ""}} {
		b := Entry{strings.Clone(a.Host), a.Kind, strings.Clone(a.Key), strings.Clone(a.Value)}
		stand(t, a, b, 0)
	}
}

// at is an entry of which each field is one of two, the second one behind the first one.
func at(host, kind, key, value int) Entry {
	two := []string{"m", "n"}
	return Entry{two[host], 3 + kind, two[key], two[value]}
}

// P14.1: a field alone tells; of two in opposite ways the first one tells.
func TestCompareFields(t *testing.T) {
	stand(t, at(0, 0, 0, 0), at(1, 0, 0, 0), -1)
	stand(t, at(0, 0, 0, 0), at(0, 1, 0, 0), -1)
	stand(t, at(0, 0, 0, 0), at(0, 0, 1, 0), -1)
	stand(t, at(0, 0, 0, 0), at(0, 0, 0, 1), -1)
	stand(t, at(0, 1, 0, 0), at(1, 0, 0, 0), -1)
	stand(t, at(0, 0, 1, 0), at(1, 0, 0, 0), -1)
	stand(t, at(0, 0, 0, 1), at(1, 0, 0, 0), -1)
	stand(t, at(0, 0, 1, 0), at(0, 1, 0, 0), -1)
	stand(t, at(0, 0, 0, 1), at(0, 1, 0, 0), -1)
	stand(t, at(0, 0, 0, 1), at(0, 0, 1, 0), -1)
	stand(t, at(0, 1, 1, 1), at(1, 0, 0, 0), -1)
	stand(t, at(0, 0, 1, 1), at(0, 1, 0, 0), -1)
}

// each tells two entries that differ in one word alone, in each of the fields that are words.
func each(a, b string) [][2]Entry {
	return [][2]Entry{
		{{a, 1, "k", "v"}, {b, 1, "k", "v"}},
		{{"h", 1, a, "v"}, {"h", 1, b, "v"}},
		{{"h", 1, "k", a}, {"h", 1, "k", b}},
	}
}

// P14.1: words are compared byte by byte; one that begins with the other stands behind it.
func TestCompareWords(t *testing.T) {
	rising := []string{"", "\x00", "\x00\x00", "\x00a", "\x01", " ", " a", "-", "10", "10.0.0.0/8", "10.0.0.10", "10.0.0.9", "100", "9", "A", "Z", "a", "a\x00", "a ", "a b", "a-", "a0", "aa", "ab", "b", "z", "zzzzzzzz", "\x7f", "\x80", "\xc3\xa9", "\xfe", "\xff", "\xff\x00", "\xff\xff"}
	for i, a := range rising {
		for k, b := range rising {
			want := 0
			if i < k {
				want = -1
			} else if i > k {
				want = 1
			}
			for _, two := range each(a, b) {
				stand(t, two[0], two[1], want)
			}
		}
	}
	for a := range 256 {
		for b := range a {
			for _, two := range each("x"+string([]byte{byte(b)})+"z", "x"+string([]byte{byte(a)})+"a") {
				stand(t, two[0], two[1], -1)
			}
		}
	}
}

// P14.1: the kinds are numbers: those below 0 and great ones, too.
func TestCompareKinds(t *testing.T) {
	rising := []int{math.MinInt, math.MinInt + 1, math.MinInt32, -300, -2, -1, 0, 1, 2, 3, 4, 5, 6, 9, 10, 11, 255, 256, math.MaxInt32, math.MaxInt - 1, math.MaxInt}
	for i, a := range rising {
		for _, b := range rising[i+1:] {
			stand(t, Entry{"h", a, "k", "v"}, Entry{"h", b, "k", "v"}, -1)
			stand(t, Entry{"h", a, "z", "z"}, Entry{"h", b, "a", "a"}, -1)
			stand(t, Entry{"g", b, "k", "v"}, Entry{"h", a, "k", "v"}, -1)
		}
	}
}

// someEntries are n of a few, so that some are there more than once.
func someEntries(seed, n int) []Entry {
	next := dice(seed)
	few := []string{"", "a", "a ", "ab", "b", "9", "10", "\xff"}
	var l []Entry
	for range n {
		l = append(l, Entry{few[next(3)], next(4) - 1, few[next(len(few))], few[next(3)]})
	}
	return l
}

// P14.1: of many entries, each two stand as the chapter says.
func TestCompareMany(t *testing.T) {
	for seed := range 40 {
		l := someEntries(seed, 30)
		for _, a := range l {
			for _, b := range l {
				stand(t, a, b, compareAgain(a, b))
			}
		}
	}
}

// P14.1: no entries, one, and the same one several times.
func TestSetFew(t *testing.T) {
	a, b := Entry{"a", 1, "k", "v"}, Entry{"b", 1, "k", "v"}
	sets(t, nil, nil)
	sets(t, []Entry{}, nil)
	for _, x := range []Entry{a, b, {}, {"", -1, "", ""}} {
		for n := 1; n <= 5; n++ {
			sets(t, slices.Repeat([]Entry{x}, n), []Entry{x})
		}
	}
	for _, l := range [][]Entry{{a, b}, {b, a}, {a, a, b}, {a, b, b}, {a, b, a}, {b, a, b}, {b, b, a, a}, {b, a, b, a}, {a, a, a, b}, {a, b, a, a}, {b, b, a, b}, {a, b, a, b, a, b}} {
		sets(t, l, []Entry{a, b})
	}
}

// P14.1: entries that differ in one field are two.
func TestSetFields(t *testing.T) {
	x := Entry{"h", 2, "k", "v"}
	for _, y := range []Entry{{"i", 2, "k", "v"}, {"h", 3, "k", "v"}, {"h", 2, "l", "v"}, {"h", 2, "k", "w"}, {"h ", 2, "k", "v"}, {"h", 2, "k\x00", "v"}, {"h", 2, "k", "vv"}} {
		sets(t, []Entry{x, y}, []Entry{x, y})
		sets(t, []Entry{y, x}, []Entry{x, y})
		sets(t, []Entry{y, x, y, x}, []Entry{x, y})
	}
	// Fields that run into one another, and those that change places, are others.
	l := []Entry{{"", 1, "a", "b"}, {"", 1, "ab", ""}, {"", 1, "b", "a"}, {"a", 1, "", "b"}, {"a", 1, "b", ""}}
	sets(t, l, l)
}

// P14.1: lists in order, in the opposite one, and in others, with each entry once or several times.
func TestSetOrder(t *testing.T) {
	l := entries(`a Flood 1 = x
		a Flood 10 = x
		a Flood 10 = y
		a Flood 9 = x
		a ARP 1 = x
		a Policy 1 = x
		aa Flood 1 = x
		b Flood 1 = x`)
	sets(t, l, l)
	turned := slices.Clone(l)
	slices.Reverse(turned)
	sets(t, turned, l)
	sets(t, slices.Concat(l, turned, l), l)
	for i := range l {
		sets(t, slices.Concat(l[i:], l[:i]), l)
		sets(t, slices.Concat(l[:i], l[i+1:], l[i:], l[:i]), l)
	}
}

// P14.1: over many lists, what is told is in order, each once, and has what the list has.
func TestSetMany(t *testing.T) {
	for seed := range 400 {
		l := someEntries(seed, seed%90)
		want := setAgain(l)
		sets(t, l, want)
		sets(t, want, want)
		for i, x := range want {
			if !slices.Contains(l, x) || i > 0 && compareAgain(want[i-1], x) >= 0 {
				t.Fatalf("%s: %s", short(l), short(want))
			}
		}
		for _, x := range l {
			if !slices.Contains(want, x) {
				t.Fatalf("%s: not there: %s", short(l), short(x))
			}
		}
	}
}

// P14.1 and P1: long lists and long words end, too.
func TestSetLong(t *testing.T) {
	// The kind hangs on the number, so that there are 1000 in all.
	var l []Entry
	for i := range 500000 {
		l = append(l, Entry{"h", i % 5, strconv.Itoa(i * 7919 % 1000), ""})
	}
	want := slices.Clone(l[:1000])
	slices.SortFunc(want, compareAgain)
	sets(t, l, want)
	big := strings.Repeat("a", 1<<24)
	for _, two := range slices.Concat(each(big, big+"a"), each(big+"a", big+"b"), each("", big)) {
		stand(t, two[0], two[1], -1)
		sets(t, []Entry{two[1], two[0], two[1]}, two[:])
	}
}

// P14.2: no lines at all.
func TestNoLines(t *testing.T) {
	answers(t, nil, nil)
	answers(t, []api.Line{}, nil)
}

// the chapter's example.
func TestExample(t *testing.T) {
	tells(t, "hosts { a { ip { 10.0.0.1; } vnis { 5; } } b { ip { 10.0.0.2; } vnis { 5; } } } vnis { 5 { subnet { 0.0.0.0/0; } } }", `
		a Flood 5 = 10.0.0.2
		b Flood 5 = 10.0.0.1`)
}

// tables fails, unless each of these texts with braces has those entries.
func tables(t *testing.T, texts map[string]string) {
	t.Helper()
	for text, want := range texts {
		tells(t, text, want)
	}
}

// Trees of many parts: the hosts a, b and c, that are in no network, and the networks 5, 6 and 10.
const (
	three    = " hosts { a { ip { 10.0.0.1; } } b { ip { 10.0.0.2; } } c { ip { 10.0.0.3; } } } "
	networks = " vnis { 10 { subnet { 0.0.0.0/0; } } 5 { subnet { 0.0.0.0/0; } } 6 { subnet { 1.0.0.0/8; } } } "
)

// hostsIn are the hosts a, b and c, with the networks that each one is in.
func hostsIn(a, b, c string) string {
	one := func(name, n, v string) string {
		return " " + name + " { ip { 10.0.0." + n + "; } vnis { " + v + " } }"
	}
	return " hosts {" + one("a", "1", a) + one("b", "2", b) + one("c", "3", c) + " }" + networks
}

// P14.2: where no host is, there are no tables, whatever else is said.
func TestNoHost(t *testing.T) {
	for _, text := range []string{"hosts;", "vnis;", "bindings;", "routes;", "policy;", networks, "hosts; vnis; bindings; routes; policy;",
		"policy { 7 { action { deny; } } 8 { action { permit; } from { 1.0.0.0/8; } } }", networks + "hosts; policy { 1 { action { deny; } } }"} {
		tells(t, text, "")
	}
}

// P14.2: a host alone, and hosts that are in no network, have no Flood, no ARP and no FDB.
func TestAlone(t *testing.T) {
	for _, text := range []string{"hosts { a { ip { 10.0.0.1; } } }", "hosts { a { ip { 10.0.0.1; } mac { 00:00:00:00:00:01; } vnis; } }",
		"hosts { a { ip { 10.0.0.1; } vnis { 5; } } }" + networks, "hosts { a { ip { 10.0.0.1; } vnis { 5; 6; 10; } } }" + networks,
		three, three + networks, hostsIn("", "", ""), hostsIn("5;", "6;", "10;"), hostsIn("5; 6;", "10;", ""),
		three + networks + "bindings { 1.0.0.9 { host { a; } mac { 00:00:00:00:00:09; } vni { 5; } } }",
		hostsIn("10;", "6;", "") + "bindings { 1.0.0.9 { host { a; } mac { 00:00:00:00:00:09; } vni { 5; } } }"} {
		tells(t, text, "")
	}
}

// P14.2: Flood, of hosts in one network, in several, and in none.
func TestFlood(t *testing.T) {
	tables(t, map[string]string{
		hostsIn("5;", "5;", ""): `
			a Flood 5 = 10.0.0.2
			b Flood 5 = 10.0.0.1`,
		hostsIn("", "6;", "6;"): `
			b Flood 6 = 10.0.0.3
			c Flood 6 = 10.0.0.2`,
		hostsIn("5;", "5;", "5;"): `
			a Flood 5 = 10.0.0.2
			a Flood 5 = 10.0.0.3
			b Flood 5 = 10.0.0.1
			b Flood 5 = 10.0.0.3
			c Flood 5 = 10.0.0.1
			c Flood 5 = 10.0.0.2`,
		hostsIn("5; 6;", "5;", "6;"): `
			a Flood 5 = 10.0.0.2
			a Flood 6 = 10.0.0.3
			b Flood 5 = 10.0.0.1
			c Flood 6 = 10.0.0.1`,
		hostsIn("5; 10;", "5; 10;", "10;"): `
			a Flood 10 = 10.0.0.2
			a Flood 10 = 10.0.0.3
			a Flood 5 = 10.0.0.2
			b Flood 10 = 10.0.0.1
			b Flood 10 = 10.0.0.3
			b Flood 5 = 10.0.0.1
			c Flood 10 = 10.0.0.1
			c Flood 10 = 10.0.0.2`,
		"hosts { h10 { ip { 10.0.0.10; } mac { 00:00:00:00:00:01; } vnis { 5; } } h9 { ip { 10.0.0.9; } vnis { 5; } } h1 { ip { 9.0.0.1; } vnis { 5; } } }" + networks: `
			h1 Flood 5 = 10.0.0.10
			h1 Flood 5 = 10.0.0.9
			h10 Flood 5 = 10.0.0.9
			h10 Flood 5 = 9.0.0.1
			h9 Flood 5 = 10.0.0.10
			h9 Flood 5 = 9.0.0.1`,
	})
}

// binding is one, as text.
func binding(ip, host, mac, vni string) string {
	return " " + ip + " { host { " + host + "; } mac { 00:00:00:00:00:" + mac + "; } vni { " + vni + "; } }"
}

// P14.2: ARP and FDB of one binding, of a host that is in its network, or not.
func TestBinding(t *testing.T) {
	one := func(host, vni string) string { return "bindings {" + binding("1.0.0.9", host, "0a", vni) + " }" }
	tables(t, map[string]string{
		// The host itself, alone in the network, and another one alone in it.
		hostsIn("5;", "", "") + one("a", "5"): "a ARP 5 1.0.0.9 = 00:00:00:00:00:0a",
		hostsIn("5;", "", "") + one("b", "5"): `
			a ARP 5 1.0.0.9 = 00:00:00:00:00:0a
			a FDB 5 00:00:00:00:00:0a = 10.0.0.2`,
		// All are in other networks, too, which tells nothing of this one.
		hostsIn("5; 6;", "10;", "") + one("a", "6"): "a ARP 6 1.0.0.9 = 00:00:00:00:00:0a",
		// The host, and others, in it.
		hostsIn("5;", "5;", "") + one("a", "5"): `
			a Flood 5 = 10.0.0.2
			a ARP 5 1.0.0.9 = 00:00:00:00:00:0a
			b Flood 5 = 10.0.0.1
			b ARP 5 1.0.0.9 = 00:00:00:00:00:0a
			b FDB 5 00:00:00:00:00:0a = 10.0.0.1`,
		hostsIn("10;", "10;", "10;") + one("c", "10"): `
			a Flood 10 = 10.0.0.2
			a Flood 10 = 10.0.0.3
			a ARP 10 1.0.0.9 = 00:00:00:00:00:0a
			a FDB 10 00:00:00:00:00:0a = 10.0.0.3
			b Flood 10 = 10.0.0.1
			b Flood 10 = 10.0.0.3
			b ARP 10 1.0.0.9 = 00:00:00:00:00:0a
			b FDB 10 00:00:00:00:00:0a = 10.0.0.3
			c Flood 10 = 10.0.0.1
			c Flood 10 = 10.0.0.2
			c ARP 10 1.0.0.9 = 00:00:00:00:00:0a`,
		// The others alone.
		hostsIn("", "5;", "5;") + one("a", "5"): `
			b Flood 5 = 10.0.0.3
			b ARP 5 1.0.0.9 = 00:00:00:00:00:0a
			b FDB 5 00:00:00:00:00:0a = 10.0.0.1
			c Flood 5 = 10.0.0.2
			c ARP 5 1.0.0.9 = 00:00:00:00:00:0a
			c FDB 5 00:00:00:00:00:0a = 10.0.0.1`,
	})
}

// P14.2: several bindings: of one host, of two, of one hardware address, of several networks.
func TestBindings(t *testing.T) {
	tables(t, map[string]string{
		hostsIn("5;", "", "") + "bindings {" + binding("1.0.0.9", "b", "0a", "5") + binding("1.0.0.10", "b", "0b", "5") + " }": `
			a ARP 5 1.0.0.10 = 00:00:00:00:00:0b
			a ARP 5 1.0.0.9 = 00:00:00:00:00:0a
			a FDB 5 00:00:00:00:00:0a = 10.0.0.2
			a FDB 5 00:00:00:00:00:0b = 10.0.0.2`,
		hostsIn("5;", "", "") + "bindings {" + binding("1.0.0.9", "b", "0a", "5") + binding("1.0.0.10", "c", "0b", "5") + " }": `
			a ARP 5 1.0.0.10 = 00:00:00:00:00:0b
			a ARP 5 1.0.0.9 = 00:00:00:00:00:0a
			a FDB 5 00:00:00:00:00:0a = 10.0.0.2
			a FDB 5 00:00:00:00:00:0b = 10.0.0.3`,
		hostsIn("5;", "", "") + "bindings {" + binding("1.0.0.9", "a", "0a", "5") + binding("1.0.0.10", "c", "0b", "5") + " }": `
			a ARP 5 1.0.0.10 = 00:00:00:00:00:0b
			a ARP 5 1.0.0.9 = 00:00:00:00:00:0a
			a FDB 5 00:00:00:00:00:0b = 10.0.0.3`,
		// One FDB of two bindings that say the same of it, and two of those that do not.
		hostsIn("5;", "", "") + "bindings {" + binding("1.0.0.9", "b", "0a", "5") + binding("1.0.0.8", "b", "0a", "5") + " }": `
			a ARP 5 1.0.0.8 = 00:00:00:00:00:0a
			a ARP 5 1.0.0.9 = 00:00:00:00:00:0a
			a FDB 5 00:00:00:00:00:0a = 10.0.0.2`,
		hostsIn("5;", "", "") + "bindings {" + binding("1.0.0.9", "c", "0a", "5") + binding("1.0.0.8", "b", "0a", "5") + binding("1.0.0.7", "a", "0a", "5") + " }": `
			a ARP 5 1.0.0.7 = 00:00:00:00:00:0a
			a ARP 5 1.0.0.8 = 00:00:00:00:00:0a
			a ARP 5 1.0.0.9 = 00:00:00:00:00:0a
			a FDB 5 00:00:00:00:00:0a = 10.0.0.2
			a FDB 5 00:00:00:00:00:0a = 10.0.0.3`,
		hostsIn("5; 10;", "", "6;") + "bindings {" + binding("1.0.0.9", "b", "0a", "5") + binding("1.0.0.8", "b", "0a", "10") + binding("1.0.0.7", "a", "0c", "6") + " }": `
			a ARP 10 1.0.0.8 = 00:00:00:00:00:0a
			a ARP 5 1.0.0.9 = 00:00:00:00:00:0a
			a FDB 10 00:00:00:00:00:0a = 10.0.0.2
			a FDB 5 00:00:00:00:00:0a = 10.0.0.2
			c ARP 6 1.0.0.7 = 00:00:00:00:00:0c
			c FDB 6 00:00:00:00:00:0c = 10.0.0.1`,
	})
}

// P14.2: the hardware address of a host, and the address of a binding, tell nothing of the other one.
func TestAddresses(t *testing.T) {
	tells(t, "hosts { a { ip { 1.0.0.1; } mac { 00:00:00:00:00:0b; } vnis { 5; } } b { ip { 1.0.0.2; } mac { 00:00:00:00:00:0a; } } }"+networks+
		"bindings {"+binding("1.0.0.1", "b", "0a", "5")+binding("1.0.0.2", "a", "0b", "5")+" }", `
		a ARP 5 1.0.0.1 = 00:00:00:00:00:0a
		a ARP 5 1.0.0.2 = 00:00:00:00:00:0b
		a FDB 5 00:00:00:00:00:0a = 1.0.0.2`)
}

// P14.2: Route, by the host itself and by another one, with a metric and without one.
func TestRoute(t *testing.T) {
	tables(t, map[string]string{
		"hosts { a { ip { 10.0.0.1; } } } routes { 0.0.0.0/0 { via { a; } } }":                  "a Route 0.0.0.0/0 = local 0",
		"hosts { a { ip { 10.0.0.1; } } } routes { 0.0.0.0/0 { via { a; } metric { 7; } } }":    "a Route 0.0.0.0/0 = local 7",
		"hosts { local { ip { 10.0.0.1; } } } routes { 255.255.255.255/32 { via { local; } } }": "local Route 255.255.255.255/32 = local 0",
		three + "routes { 10.0.0.0/8 { via { b; } metric { 1.5; } } }":                          "a Route 10.0.0.0/8 = 10.0.0.2 1.5\nb Route 10.0.0.0/8 = local 1.5\nc Route 10.0.0.0/8 = 10.0.0.2 1.5",
		hostsIn("5;", "", "6;") + "routes { 10.0.0.0/8 { via { c; } } }":                        "a Route 10.0.0.0/8 = 10.0.0.3 0\nb Route 10.0.0.0/8 = 10.0.0.3 0\nc Route 10.0.0.0/8 = local 0",
		three + "routes { 10.0.0.0/8 { via { b; } } 9.0.0.0/8 { via { a; } metric { -1; } } }": `
			a Route 10.0.0.0/8 = 10.0.0.2 0
			a Route 9.0.0.0/8 = local -1
			b Route 10.0.0.0/8 = local 0
			b Route 9.0.0.0/8 = 10.0.0.1 -1
			c Route 10.0.0.0/8 = 10.0.0.2 0
			c Route 9.0.0.0/8 = 10.0.0.1 -1`,
	})
}

// P14.2: a metric is told as the tree has it, each that layer 11 writes.
func TestMetrics(t *testing.T) {
	for _, x := range []float64{0, math.Copysign(0, -1), 1, -1, 9, 10, 1.5, -1.5, 0.25, 0.001, -0.001, 999999, 999999.999, -999999.999, math.NaN(), math.Inf(1), math.Inf(-1)} {
		w, ok := metric.Text(x)
		if !ok {
			t.Fatalf("%v is not written", x)
		}
		tells(t, "hosts { a { ip { 10.0.0.1; } } b { ip { 10.0.0.2; } } } routes { 9.0.0.0/8 { via { b; } metric { "+w+"; } } }", `
			a Route 9.0.0.0/8 = 10.0.0.2 `+w+`
			b Route 9.0.0.0/8 = local `+w)
	}
}

// P14.2: Policy, with a from, with a to, with both, with none, and with each action; all hosts have all of them.
func TestPolicy(t *testing.T) {
	for _, action := range []string{"permit", "deny"} {
		for _, from := range []string{"", "10.0.0.0/8", "0.0.0.0/0"} {
			for _, to := range []string{"", "11.0.0.0/8", "0.0.0.0/0"} {
				text, value := "action { "+action+"; }", action
				for i, p := range []string{from, to} {
					if p == "" {
						value += " any"
						continue
					}
					text += []string{" from", " to"}[i] + " { " + p + "; }"
					value += " " + p
				}
				text = "policy { 7 { " + text + " } }"
				tells(t, "hosts { a { ip { 10.0.0.1; } } }"+text, "a Policy 7 = "+value)
				tells(t, three+text, "a Policy 7 = "+value+"\nb Policy 7 = "+value+"\nc Policy 7 = "+value)
			}
		}
	}
	tells(t, "hosts { a { ip { 1.1.1.1; } } b { ip { 10.0.0.2; } vnis { 5; } } }"+networks+"policy { 9 { action { permit; } } 10 { to { 1.0.0.0/8; } action { deny; } } 1000 { action { deny; } } 1 { action { deny; } from { 1.1.1.1/32; } } }", `
		a Policy 1 = deny 1.1.1.1/32 any
		a Policy 10 = deny any 1.0.0.0/8
		a Policy 1000 = deny any any
		a Policy 9 = permit any any
		b Policy 1 = deny 1.1.1.1/32 any
		b Policy 10 = deny any 1.0.0.0/8
		b Policy 1000 = deny any any
		b Policy 9 = permit any any`)
}

// everything has each of the tables, of words that stand in another order as numbers.
var everything = hostsIn("5; 10;", "10;", "5; 10;") + "bindings {" + binding("1.0.0.10", "a", "0b", "10") + binding("1.0.0.9", "b", "0a", "5") + ` }
	routes { 10.0.0.0/8 { via { a; } } 9.0.0.0/8 { via { c; } metric { 2; } } }
	policy { 10 { action { deny; } } 9 { action { permit; } to { 9.0.0.0/8; } } }`

// P14.2: all tables together, whatever the marks are, and wherever they stand.
func TestAll(t *testing.T) {
	const want = `
		a Flood 10 = 10.0.0.2
		a Flood 10 = 10.0.0.3
		a Flood 5 = 10.0.0.3
		a ARP 10 1.0.0.10 = 00:00:00:00:00:0b
		a ARP 5 1.0.0.9 = 00:00:00:00:00:0a
		a FDB 5 00:00:00:00:00:0a = 10.0.0.2
		a Route 10.0.0.0/8 = local 0
		a Route 9.0.0.0/8 = 10.0.0.3 2
		a Policy 10 = deny any any
		a Policy 9 = permit any 9.0.0.0/8
		b Flood 10 = 10.0.0.1
		b Flood 10 = 10.0.0.3
		b ARP 10 1.0.0.10 = 00:00:00:00:00:0b
		b FDB 10 00:00:00:00:00:0b = 10.0.0.1
		b Route 10.0.0.0/8 = 10.0.0.1 0
		b Route 9.0.0.0/8 = 10.0.0.3 2
		b Policy 10 = deny any any
		b Policy 9 = permit any 9.0.0.0/8
		c Flood 10 = 10.0.0.1
		c Flood 10 = 10.0.0.2
		c Flood 5 = 10.0.0.1
		c ARP 10 1.0.0.10 = 00:00:00:00:00:0b
		c ARP 5 1.0.0.9 = 00:00:00:00:00:0a
		c FDB 10 00:00:00:00:00:0b = 10.0.0.1
		c FDB 5 00:00:00:00:00:0a = 10.0.0.2
		c Route 10.0.0.0/8 = 10.0.0.1 0
		c Route 9.0.0.0/8 = local 2
		c Policy 10 = deny any any
		c Policy 9 = permit any 9.0.0.0/8`
	tells(t, everything, want)
	x := read(t, everything)
	for i := range x {
		for mark := 1; mark <= 3; mark++ {
			marked := slices.Clone(x)
			marked[i].Mark = mark
			answers(t, marked, entries(want))
		}
	}
}

// P14.2: what is no tree is refused, whatever faults it would have.
func TestNoTree(t *testing.T) {
	long := strings.Repeat("a", api.MaxWord+1)
	for _, x := range [][]api.Line{{line(1, "hosts")}, {line(-1, "hosts")}, {line(0, "hosts"), line(2, "a")}, {line(0, "vnis"), line(0, "hosts")}, {line(0, "hosts"), line(0, "hosts")}, {line(0, long)},
		{{Word: "hosts", Mark: 4}}, {{Word: "hosts", Mark: -1}}, {{Word: "x", Mark: 4}}, {line(0, "x"), line(0, "a")}, flat(201), flat(1000000), {line(0, strings.Repeat("x", 1<<24))}} {
		refused(t, x, api.ErrArg)
	}
	x := read(t, everything)
	refused(t, append(slices.Clone(x), line(0, "hosts")), api.ErrArg)
	refused(t, append(slices.Clone(x), line(0, long)), api.ErrArg)
	for i := range x {
		bad := slices.Clone(x)
		bad[i].Mark = 4
		refused(t, bad, api.ErrArg)
		bad[i] = x[i]
		bad[i].Depth += 16
		refused(t, bad, api.ErrArg)
	}
}

// P14.2: what has a fault is refused, each of layer 13's, whatever the marks are, and whatever else the tree has.
func TestFaults(t *testing.T) {
	const part = "bindings { 9.9.9.9 { host { a; } mac { 00:00:00:00:00:01; } vni { 5; } } } vnis { 5 { subnet { 9.0.0.0/8; } } } "
	for _, text := range []string{
		"x;", "hosts { A { ip { 1.1.1.1; } } }", "hosts { a { ip { 1.1.1.1; } z; } }", "policy { 0 { action { deny; } } }", "routes { 1.1.1.1/8; }",
		"hosts { a { ip; } }", "hosts { a { ip { 1.1.1.1; } mac; } }", "hosts { a; }", "hosts { a { vnis; } }", "hosts { a { ip { 1.1.1.1; 1.1.1.2; } } }",
		"hosts { a { ip { 1.1.1; } } }", "hosts { a { ip { 1.1.1.1 { x; } } } }", "hosts { a { ip { 1.1.1.1; } mac { 1; } } }",
		"hosts { a { ip { 1.1.1.1; } } b { ip { 1.1.1.1; } } }", "hosts { a { ip { 1.1.1.1; } vnis { 5; } } }", "vnis { 5; }", "vnis { 5 { subnet; } }",
		"vnis { 5 { subnet { 1.0.0.0/8; 2.0.0.0/8; } } }", "vnis { 16777216 { subnet { 1.0.0.0/8; } } }",
		part, part + "hosts { b { ip { 1.1.1.1; } } }",
		"hosts { a { ip { 1.1.1.1; } } } bindings { 9.9.9.9; }",
		"hosts { a { ip { 1.1.1.1; } } } bindings { 9.9.9.9 { host { a; } mac { 00:00:00:00:00:01; } vni { 5; } } }",
		"hosts { a { ip { 1.1.1.1; } } } bindings { 9.9.9.9 { host { a; } mac { 00:00:00:00:00:01; } vni { 5; } } } vnis { 5 { subnet { 8.0.0.0/8; } } }",
		"routes { 1.0.0.0/8 { via { a; } } }", "hosts { a { ip { 1.1.1.1; } } } routes { 1.0.0.0/8; }", "hosts { a { ip { 1.1.1.1; } } } routes { 1.0.0.0/8 { via { a; } metric; } }",
		"hosts { a { ip { 1.1.1.1; } } } routes { 1.0.0.0/8 { via { a; } metric { 01; } } }", "policy { 7; }", "policy { 7 { action; } }", "policy { 7 { action { allow; } } }",
		"policy { 7 { action { deny; permit; } } }", "policy { 7 { action { deny; } from; } }", "policy { 7 { action { deny; } to { any; } } }", "groups { g { hosts; } }", "apply;",
	} {
		x := read(t, text)
		if l, e := schema.Check(x); len(l) == 0 || e != api.OK {
			t.Fatalf("%q has no fault, %d", text, e)
		}
		for mark := range 4 {
			refused(t, allMarked(x, mark), api.ErrCheck)
		}
	}
	for _, x := range [][]api.Line{flat(1), flat(200)} {
		refused(t, x, api.ErrCheck)
	}
	tells(t, part+"hosts { a { ip { 1.1.1.1; } } }", "")
	for i, text := range []string{"hosts { d; }", "vnis { 7; }", "bindings { 1.1.1.1; }", "routes { 1.1.1.1/32; }", "policy { 7; }", "zzz;"} {
		y := of(t, "hosts a ip 1.1.1.1")
		for _, p := range pathsOf(read(t, text)) {
			y, _ = lines.Add(y, p)
		}
		if _, e := Compile(y); e != api.ErrCheck {
			t.Errorf("%d: %q: %d", i, text, e)
		}
	}
}

// grown is a tree without faults that grows, statement by statement.
type grown struct {
	t           []api.Line
	most        int // lines
	next        func(below int) int
	hosts, nets []string
}

// add adds paths, each one a text, if there is room for all of them, and tells whether there was.
func (g *grown) add(paths ...string) bool {
	x := g.t
	for _, p := range paths {
		longer, e := lines.Add(x, strings.Fields(p))
		if e != api.OK {
			return false
		}
		x = longer
	}
	if len(x) > g.most {
		return false
	}
	g.t = x
	return true
}

// has: is there a line of that path?
func (g *grown) has(path string) bool {
	_, ok := tree.Find(g.t, strings.Fields(path))
	return ok
}

// pick is one of several words.
func (g *grown) pick(l []string) string { return l[g.next(len(l))] }

// host adds a host, that is in a network, if there is any, or in none.
func (g *grown) host() {
	n := strconv.Itoa(len(g.hosts))
	name := g.pick([]string{"h", "a", "a-"}) + n
	if g.add("hosts " + name + " ip 10.0.0." + n) {
		g.hosts = append(g.hosts, name)
	}
}

// net adds a network, whose number may stand elsewhere as bytes.
func (g *grown) net() {
	n := strconv.Itoa(len(g.nets)*3 + 5)
	if g.add("vnis " + n + " subnet 192.168.0.0/16") {
		g.nets = append(g.nets, n)
	}
}

// binding adds one, seldom of a hardware address of its own.
func (g *grown) binding() {
	at := "bindings 192.168.0." + strconv.Itoa(g.next(250)) + " "
	if !g.has(at) {
		g.add(at+"host "+g.pick(g.hosts), at+"mac 00:00:00:00:00:0"+strconv.Itoa(g.next(4)), at+"vni "+g.pick(g.nets))
	}
}

// route adds one, with a metric or without.
func (g *grown) route() {
	at := "routes " + strconv.Itoa(g.next(250)) + ".0.0.0/8 "
	if g.has(at) {
		return
	}
	paths := []string{at + "via " + g.pick(g.hosts)}
	if g.next(2) == 0 {
		paths = append(paths, at+"metric "+g.pick([]string{"0", "-0", "1.5", "nan", "inf"}))
	}
	g.add(paths...)
}

// policy adds a line of it, with a from and a to, or without.
func (g *grown) policy() {
	at := "policy " + strconv.Itoa(1+g.next(1000)) + " "
	if g.has(at) {
		return
	}
	paths := []string{at + "action " + g.pick([]string{"permit", "deny"})}
	for _, w := range []string{"from ", "to "} {
		if g.next(2) == 0 {
			paths = append(paths, at+w+g.pick([]string{"0.0.0.0/0", "10.0.0.0/8", "10.0.0.1/32"}))
		}
	}
	g.add(paths...)
}

// more adds something, if it can be said yet.
func (g *grown) more() {
	switch kind := g.next(12); {
	case kind == 0:
		g.host()
	case kind == 1:
		g.net()
	case kind == 2:
		g.policy()
	case len(g.hosts) == 0:
		g.add(g.pick([]string{"hosts", "vnis", "bindings", "routes", "policy"}))
	case kind == 3:
		g.route()
	case kind == 4:
		g.add("hosts " + g.pick(g.hosts) + " vnis")
	case kind == 5:
		if at := "hosts " + g.pick(g.hosts) + " mac"; !g.has(at) {
			g.add(at + " 00:00:00:00:01:01")
		}
	case len(g.nets) == 0:
	case kind < 8:
		g.binding()
	default:
		g.add("hosts " + g.pick(g.hosts) + " vnis " + g.pick(g.nets))
	}
}

// rightTree is one without faults, of so many lines, or of a few less, with some marks.
func rightTree(seed, size int) []api.Line {
	g := &grown{most: size, next: dice(seed)}
	for i := 0; i < 30+4*size && len(g.t) < size; i++ {
		g.more()
	}
	for i := range g.t {
		if g.next(4) == 0 {
			g.t[i].Mark = g.next(4)
		}
	}
	return g.t
}

// rightTrees are some without faults, of all sizes. No test writes into them.
var rightTrees = sync.OnceValue(func() [][]api.Line {
	var trees [][]api.Line
	for size := range api.MaxLines + 1 {
		for k := range 3 {
			trees = append(trees, rightTree(size*3+k, size))
		}
	}
	return trees
})

// The trees that are tried have all sizes, and no faults.
func TestRightTrees(t *testing.T) {
	sizes := make(map[int]bool)
	for _, x := range rightTrees() {
		if l, e := schema.Check(x); len(l) != 0 || e != api.OK {
			t.Fatalf("%s: %s, %d", short(x), short(l), e)
		}
		sizes[len(x)] = true
	}
	if len(sizes) < 195 || !sizes[0] || !sizes[1] || !sizes[api.MaxLines] {
		t.Errorf("only %d sizes", len(sizes))
	}
}

// P14.2: over many trees, the tables are what the chapter's words say.
func TestEachTree(t *testing.T) {
	many := make(map[int]int)
	for _, x := range rightTrees() {
		want := compileAgain(x)
		answers(t, x, want)
		for _, one := range want {
			many[one.Kind]++
		}
	}
	for kind := Flood; kind <= Policy; kind++ {
		if many[kind] < 1000 {
			t.Errorf("only %d of %s", many[kind], kindNames[kind])
		}
	}
}

// P14.2, P14.3: the entries are in order, each once, of hosts that are there alone, and marks make no difference.
func TestInOrder(t *testing.T) {
	for seed, x := range rightTrees() {
		l, e := Compile(x)
		if e != api.OK {
			t.Fatalf("%s: %d", short(x), e)
		}
		for i, one := range l {
			if i > 0 && compareAgain(l[i-1], one) >= 0 {
				t.Fatalf("%s: %s", short(x), short(l))
			}
			if _, ok := tree.Find(x, []string{"hosts", one.Host}); !ok || one.Kind < Flood || one.Kind > Policy {
				t.Fatalf("%s: %s", short(x), short(one))
			}
		}
		answers(t, allMarked(x, seed%4), l)
	}
}

// P14.3: of two hosts in one network each floods to the other one, and nobody else does.
func TestBothFlood(t *testing.T) {
	pairs := 0
	for _, x := range rightTrees() {
		l, _ := Compile(x)
		p := pathsOf(x)
		floods := 0
		for _, a := range match(p, "hosts * vnis *") {
			for _, b := range match(p, "hosts * vnis "+a[1]) {
				if a[0] == b[0] {
					continue
				}
				floods++
				one := Entry{a[0], Flood, a[1], wordOf(p, "hosts "+b[0]+" ip *", "")}
				if !slices.Contains(l, one) {
					t.Fatalf("%s: not there: %s", short(x), short(one))
				}
			}
		}
		told := 0
		for _, one := range l {
			if one.Kind == Flood {
				told++
			}
		}
		if told != floods {
			t.Errorf("%s: %d, and not %d", short(x), told, floods)
		}
		pairs += floods
	}
	if pairs < 1000 {
		t.Errorf("only %d", pairs)
	}
}

// P14.2: a tree of which one line was turned has the tables that the chapter says, or, if it has a fault, none.
func TestNearRight(t *testing.T) {
	many := make(map[api.Errno]int)
	for seed := range 1500 {
		next := dice(seed)
		x := rightTree(seed, 10+seed%60)
		at := next(len(x))
		switch next(3) {
		case 0:
			x = append(x[:at], x[tree.End(x, at):]...)
		case 1:
			x[at].Word = x[next(len(x))].Word
		default:
			p, _ := tree.Path(x, at)
			x, _ = lines.Add(x, append(p, x[next(len(x))].Word))
		}
		l, e := schema.Check(x)
		switch {
		case e != api.OK:
		case len(l) > 0:
			e = api.ErrCheck
		default:
			answers(t, x, compileAgain(x))
		}
		if many[e]++; e != api.OK {
			refused(t, x, e)
		}
	}
	for _, e := range []api.Errno{api.OK, api.ErrArg, api.ErrCheck} {
		if many[e] < 100 {
			t.Errorf("only %d of %d", many[e], e)
		}
	}
}

// full has 200 lines and no fault: 38 hosts in one network, a line of policy, and no bindings.
func full(t *testing.T) []api.Line {
	t.Helper()
	paths := []string{"vnis 5 subnet 0.0.0.0/0"}
	for i := range 38 {
		at := "hosts h" + strconv.Itoa(i)
		paths = append(paths, at+" ip 10.0.0."+strconv.Itoa(i), at+" vnis 5")
	}
	return of(t, append(paths, "policy 1 action deny", "bindings")...)
}

// P14.2: as many lines as there may be, and one more.
func TestMost(t *testing.T) {
	x := full(t)
	if len(x) != api.MaxLines {
		t.Fatalf("%d lines", len(x))
	}
	want := compileAgain(x)
	answers(t, x, want)
	if len(want) != 38*37+38 {
		t.Errorf("%d entries", len(want))
	}
	var more []api.Line
	for _, l := range x {
		if more = append(more, l); l.Word == "h9" {
			more = append(more, line(2, "0"))
		}
	}
	refused(t, more, api.ErrArg)
	// As many as there may be again, but one of them is no statement.
	refused(t, more[:api.MaxLines], api.ErrCheck)
}

// spare is a list with room behind it.
func spare[T any](l []T) []T { return append(make([]T, 0, len(l)+50), l...) }

// untouched: is it as it was, and all of that room, too?
func untouched[T comparable](l, was []T) bool {
	var zero T
	return slices.Equal(l, was) && !slices.ContainsFunc(l[len(l):cap(l)], func(x T) bool { return x != zero })
}

// scribble writes into a list, and behind it.
func scribble(l []Entry) {
	l = l[:cap(l)]
	for i := range l {
		l[i] = Entry{"q", 9, "q", "q"}
	}
}

// R1, R3, R4: what Set is handed stays as it was, and what it answers is memory of its own.
func TestSetShares(t *testing.T) {
	lists := [][]Entry{nil, {}, {{}}, entries("a ARP k = v"), entries("a ARP k = v\nb ARP k = v"), entries("b ARP k = v\na ARP k = v\nb ARP k = v")}
	for seed := range 200 {
		lists = append(lists, someEntries(seed, seed%40), setAgain(someEntries(seed, seed%40)))
	}
	for _, was := range lists {
		l := spare(was)
		got := Set(l)
		kept := slices.Clone(got)
		scribble(got)
		if !untouched(l, was) || !slices.Equal(Set(l), kept) {
			t.Errorf("%s: something was written into", short(was))
		}
		got = Set(l)
		scribble(l)
		if !slices.Equal(got, kept) {
			t.Errorf("%s: the answer was kept in the list", short(was))
		}
	}
}

// R1, R3, R4: what Compile is handed stays as it was, and what it answers is memory of its own.
func TestCompileShares(t *testing.T) {
	trees := append(slices.Clone(rightTrees()), nil, flat(3), flat(201), full(t), read(t, everything), read(t, "hosts { a; }"))
	for _, was := range trees {
		x := spare(was)
		got, e := Compile(x)
		kept := slices.Clone(got)
		scribble(got)
		again, fault := Compile(x)
		if !untouched(x, was) || e != fault || !slices.Equal(again, kept) {
			t.Errorf("%s: something was written into", short(was))
		}
		for i := range x {
			x[i] = line(7, "q")
		}
		if !slices.Equal(again, kept) {
			t.Errorf("%s: the answer was kept in the tree", short(was))
		}
	}
}

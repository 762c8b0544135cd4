package patch

import (
	"fmt"
	"math"
	"math/bits"
	"slices"
	"sort"
	"strconv"
	"strings"
	"sync"
	"testing"

	"ferryslip/api"
	"ferryslip/host"
	"ferryslip/lines"
	"ferryslip/tree"
)

// ahead says layer 14's words of the order again.
func ahead(a, b host.Entry) bool {
	switch {
	case a.Host != b.Host:
		return aheadOf(a.Host, b.Host)
	case a.Kind != b.Kind:
		return a.Kind < b.Kind
	case a.Key != b.Key:
		return aheadOf(a.Key, b.Key)
	}
	return aheadOf(a.Value, b.Value)
}

// aheadOf tells whether a word stands ahead of another one, byte by byte.
func aheadOf(a, b string) bool {
	for i := 0; i < len(a) && i < len(b); i++ {
		if a[i] != b[i] {
			return a[i] < b[i]
		}
	}
	return len(a) < len(b)
}

// setAgain tells entries in order, each once.
func setAgain(l []host.Entry) []host.Entry {
	in := make(map[host.Entry]bool)
	for _, x := range l {
		in[x] = true
	}
	return orderedAgain(in)
}

func orderedAgain(in map[host.Entry]bool) []host.Entry {
	var out []host.Entry
	for x, is := range in {
		if is {
			out = append(out, x)
		}
	}
	sort.Slice(out, func(i, k int) bool { return ahead(out[i], out[k]) })
	return out
}

// ofAgain says the chapter's words of the patch between again.
func ofAgain(a, b []host.Entry) Patch {
	first, second := make(map[host.Entry]bool), make(map[host.Entry]bool)
	for _, x := range a {
		first[x] = true
	}
	for _, x := range b {
		second[x] = !first[x]
	}
	for _, x := range b {
		first[x] = false
	}
	return Patch{orderedAgain(first), orderedAgain(second)}
}

// applyAgain says the chapter's words of Apply again.
func applyAgain(l []host.Entry, p Patch) []host.Entry {
	in := make(map[host.Entry]bool)
	for _, x := range l {
		in[x] = true
	}
	for _, x := range p.Drop {
		in[x] = false
	}
	for _, x := range p.Put {
		in[x] = true
	}
	return orderedAgain(in)
}

// onlyAgain says the chapter's words of Only again.
func onlyAgain(p Patch, h string) Patch {
	other := func(x host.Entry) bool { return x.Host != h }
	return Patch{slices.DeleteFunc(slices.Clone(p.Drop), other), slices.DeleteFunc(slices.Clone(p.Put), other)}
}

// hostsAgain says the chapter's words of Hosts again.
func hostsAgain(p Patch) []string {
	in := make(map[string]bool)
	for _, l := range [][]host.Entry{p.Put, p.Drop} {
		for _, x := range l {
			in[x.Host] = true
		}
	}
	var out []string
	for h := range in {
		out = append(out, h)
	}
	sort.Slice(out, func(i, k int) bool { return aheadOf(out[i], out[k]) })
	return out
}

// short writes what is told, as far as anybody reads on.
func short(x any) string { return fmt.Sprintf("%.600s", fmt.Sprintf("%q", fmt.Sprint(x))) }

// same: are they the same entries, in the same order?
func same(p, q Patch) bool { return slices.Equal(p.Drop, q.Drop) && slices.Equal(p.Put, q.Put) }

// size tells how many entries a patch has.
func size(p Patch) int { return len(p.Drop) + len(p.Put) }

// entry is one of a text: its Host, and behind blanks its Kind, its Key and its Value, as far as there are any; the Kind is 1 else.
func entry(text string) host.Entry {
	w := strings.Fields(text)
	x := host.Entry{Host: w[0], Kind: 1}
	if len(w) > 1 {
		x.Kind, _ = strconv.Atoi(w[1])
	}
	if len(w) > 2 {
		x.Key = w[2]
	}
	if len(w) > 3 {
		x.Value = w[3]
	}
	return x
}

// list is the entries of a text, between commas.
func list(text string) []host.Entry {
	var l []host.Entry
	for _, s := range strings.Split(text, ",") {
		if s = strings.TrimSpace(s); s != "" {
			l = append(l, entry(s))
		}
	}
	return l
}

// between fails, unless Of answers that patch, and the chapter says the same; and the other way round.
func between(t *testing.T, a, b []host.Entry, want Patch) {
	t.Helper()
	for range 2 {
		if got := Of(a, b); !same(got, want) {
			t.Errorf("%s to %s: %s; it should be %s", short(a), short(b), short(got), short(want))
		}
		if got := ofAgain(a, b); !same(got, want) {
			t.Fatalf("%s to %s: the chapter says %s", short(a), short(b), short(got))
		}
		a, b, want = b, a, Patch{want.Put, want.Drop}
	}
}

// makes fails, unless Apply answers that, and the chapter says the same.
func makes(t *testing.T, l []host.Entry, p Patch, want []host.Entry) {
	t.Helper()
	if got := Apply(l, p); !slices.Equal(got, want) {
		t.Errorf("%s with %s: %s; it should be %s", short(l), short(p), short(got), short(want))
	}
	if got := applyAgain(l, p); !slices.Equal(got, want) {
		t.Fatalf("%s with %s: the chapter says %s", short(l), short(p), short(got))
	}
}

// only fails, unless Only answers that, and the chapter says the same.
func only(t *testing.T, p Patch, h string, want Patch) {
	t.Helper()
	if got := Only(p, h); !same(got, want) {
		t.Errorf("%s of %q: %s; it should be %s", short(p), h, short(got), short(want))
	}
	if got := onlyAgain(p, h); !same(got, want) {
		t.Fatalf("%s of %q: the chapter says %s", short(p), h, short(got))
	}
}

// named fails, unless Hosts answers that, and the chapter says the same.
func named(t *testing.T, p Patch, want ...string) {
	t.Helper()
	if got := Hosts(p); !slices.Equal(got, want) {
		t.Errorf("%s: %q; it should be %q", short(p), got, want)
	}
	if got := hostsAgain(p); !slices.Equal(got, want) {
		t.Fatalf("%s: the chapter says %q", short(p), got)
	}
}

// dice makes numbers, always the same ones of one seed, each from 0 to below-1.
func dice(seed int) func(below int) int {
	x := uint64(seed)*0x9e3779b97f4a7c15 + 1
	return func(below int) int {
		x = x*6364136223846793005 + 1442695040888963407
		return int(x >> 33 % uint64(below))
	}
}

// pick is one of several.
func pick[T any](next func(int) int, l []T) T { return l[next(len(l))] }

// turned is a list in another order.
func turned[T any](l []T, next func(int) int) []T {
	l = slices.Clone(l)
	for i := range l {
		k := next(i + 1)
		l[i], l[k] = l[k], l[i]
	}
	return l
}

// twice is a list in another order, some of its entries more often.
func twice(l []host.Entry, next func(int) int) []host.Entry {
	more := slices.Clone(l)
	for _, x := range l {
		for range max(0, next(6)-3) {
			more = append(more, x)
		}
	}
	return turned(more, next)
}

// backwards is a list in the opposite order.
func backwards[T any](l []T) []T {
	l = slices.Clone(l)
	slices.Reverse(l)
	return l
}

// orders are all orders of so many numbers from 0 on.
func orders(n int) [][]int {
	if n == 0 {
		return [][]int{nil}
	}
	var all [][]int
	for _, o := range orders(n - 1) {
		for i := range n {
			all = append(all, slices.Insert(slices.Clone(o), i, n-1))
		}
	}
	return all
}

// everyByte has each byte once.
var everyByte = func() string {
	var b []byte
	for i := range 256 {
		b = append(b, byte(i))
	}
	return string(b)
}()

// words stand in order: of no bytes, with each kind of byte, and some that begin with another one.
var words = []string{"", "\x00", "\x00\x00", everyByte, " ", "!", "-1", "0", "0.0.0.0/0", "1", "10", "2", "A", "a", "a\x00", "a ", "aa", "ab", "b", "~", "\x7f", "\x80", "\xc3\xa4", "\xff", "\xff\x00", "\xff\xff"}

// kinds stand in order: below 0, those of the tables, and great ones.
var kinds = []int{math.MinInt, math.MinInt + 1, -1 << 32, -1<<31 - 1, -256, -2, -1, 0, host.Flood, host.ARP, host.FDB, host.Route, host.Policy, 6, 255, 256, 1 << 31, 1<<32 + 1, math.MaxInt - 1, math.MaxInt}

// Those words and kinds are as they are said to be.
func TestInOrder(t *testing.T) {
	for i := 1; i < len(words); i++ {
		if !aheadOf(words[i-1], words[i]) || words[i-1] >= words[i] {
			t.Errorf("%q, %q", words[i-1], words[i])
		}
	}
	if !slices.IsSorted(kinds) {
		t.Errorf("%v", kinds)
	}
	if a, b := entry("x"), entry("x 2 y z"); a != (host.Entry{Host: "x", Kind: 1}) || b != (host.Entry{Host: "x", Kind: 2, Key: "y", Value: "z"}) {
		t.Errorf("%v, %v", a, b)
	}
	if l := entry("x 7"); l != (host.Entry{Host: "x", Kind: 7}) {
		t.Errorf("%v", l)
	}
}

// P16.1: the chapter's example, whatever order the entries stand in.
func TestExample(t *testing.T) {
	for _, first := range []string{"a, b", "b, a", "a, b, a"} {
		for _, second := range []string{"b, c", "c, b", "c, b, c, b"} {
			a, b := list(first), list(second)
			between(t, a, b, Patch{list("a"), list("c")})
			makes(t, a, Of(a, b), list("b, c"))
			makes(t, b, Of(b, a), list("a, b"))
			named(t, Of(a, b), "a", "c")
			only(t, Of(a, b), "a", Patch{list("a"), nil})
			only(t, Of(a, b), "b", Patch{})
			only(t, Of(a, b), "c", Patch{nil, list("c")})
		}
	}
}

// P16.1: lists with nothing in them.
func TestOfNothing(t *testing.T) {
	between(t, nil, nil, Patch{})
	between(t, []host.Entry{}, nil, Patch{})
	between(t, []host.Entry{}, []host.Entry{}, Patch{})
	for _, none := range [][]host.Entry{nil, {}} {
		between(t, none, []host.Entry{{}}, Patch{nil, []host.Entry{{}}})
		for text, want := range map[string]string{"a": "a", "a, a": "a", "b, a": "a, b", "a, b": "a, b", "c, a, b, a, c": "a, b, c", "b 3 k v, b 2 k v, b 2 j v, b 2 j u": "b 2 j u, b 2 j v, b 2 k v, b 3 k v"} {
			between(t, none, list(text), Patch{nil, list(want)})
			between(t, list(text), none, Patch{list(want), nil})
		}
	}
}

// P16.1: nothing is between a list and itself, nor between the same entries in unlike orders, or more often.
func TestOfItself(t *testing.T) {
	for _, text := range []string{"a", "a, b", "a, a", "b, a", "a 1 k v, a 1 k w, a 2 k v, b 1 k v"} {
		l := list(text)
		between(t, l, l, Patch{})
		between(t, l, slices.Clone(l), Patch{})
		between(t, l, backwards(l), Patch{})
		between(t, l, slices.Concat(l, l, backwards(l)), Patch{})
	}
	l := list("a, b, c, d")
	for _, o := range orders(4) {
		between(t, l, []host.Entry{l[o[0]], l[o[1]], l[o[2]], l[o[3]]}, Patch{})
	}
}

// P16.1: how often an entry stands in one list, in the other, or in both makes no difference.
func TestOfTwice(t *testing.T) {
	for _, c := range []struct{ a, b, drop, put string }{
		{"a, a", "b", "a", "b"},
		{"a, a, a", "", "a", ""},
		{"a, a", "a", "", ""},
		{"a, a", "a, a, a", "", ""},
		{"a, b, a", "b, c, b, c", "a", "c"},
		{"b, b, a", "b", "a", ""},
		{"b, a, b", "c, b, b, c", "a", "c"},
		{"c, c, a, a, b, b", "b, b, d, d", "a, c", "d"},
		{"d, b, d, b, a, c", "c, e, e, c", "a, b, d", "e"},
		{"c, a, c, b", "a, b, b, a", "c", ""},
	} {
		between(t, list(c.a), list(c.b), Patch{list(c.drop), list(c.put)})
		between(t, backwards(list(c.a)), backwards(list(c.b)), Patch{list(c.drop), list(c.put)})
	}
}

// P16.1: entries that differ in one field alone are two, of each word and each Kind.
func TestOfFields(t *testing.T) {
	base := host.Entry{Host: "h", Kind: 3, Key: "k", Value: "v"}
	fields := []func(i int) host.Entry{
		func(i int) host.Entry { return host.Entry{Host: words[i], Kind: 3, Key: "k", Value: "v"} },
		func(i int) host.Entry { return host.Entry{Host: "h", Kind: 3, Key: words[i], Value: "v"} },
		func(i int) host.Entry { return host.Entry{Host: "h", Kind: 3, Key: "k", Value: words[i]} },
		func(i int) host.Entry { return host.Entry{Host: "h", Kind: kinds[i], Key: "k", Value: "v"} },
	}
	for f, of := range fields {
		many := len(words)
		if f == 3 {
			many = len(kinds)
		}
		var all []host.Entry
		for i := range many {
			all = append(all, of(i))
		}
		for i, x := range all {
			for k, y := range all {
				if i == k {
					between(t, []host.Entry{x}, []host.Entry{y}, Patch{})
					continue
				}
				between(t, []host.Entry{x}, []host.Entry{y}, Patch{[]host.Entry{x}, []host.Entry{y}})
				between(t, []host.Entry{x, base}, []host.Entry{base, y, y}, ofAgain([]host.Entry{x, base}, []host.Entry{base, y}))
				makes(t, []host.Entry{x, y}, Patch{Drop: []host.Entry{y}}, []host.Entry{x})
				makes(t, []host.Entry{x}, Patch{Drop: []host.Entry{y}}, []host.Entry{x})
				makes(t, []host.Entry{x}, Patch{Put: []host.Entry{y}}, all2(all, i, k))
			}
		}
		// All at once: they are told in order.
		between(t, nil, backwards(all), Patch{nil, all})
		between(t, turned(all, dice(f)), all[:5], Patch{all[5:], nil})
		makes(t, nil, Patch{Put: turned(all, dice(f))}, all)
		makes(t, backwards(all), Patch{}, all)
		makes(t, turned(all, dice(f+9)), Patch{Drop: backwards(all[3:7])}, slices.Concat(all[:3], all[7:]))
	}
}

// all2 is two of many, as they stand there.
func all2(all []host.Entry, i, k int) []host.Entry {
	return []host.Entry{all[min(i, k)], all[max(i, k)]}
}

// P16.1: words that hold the same bytes together, but not one by one, are others.
func TestOfTogether(t *testing.T) {
	l := []host.Entry{
		{Host: "", Kind: 1, Key: "", Value: "ab"}, {Host: "", Kind: 1, Key: "a", Value: "b"}, {Host: "", Kind: 1, Key: "ab", Value: ""},
		{Host: "a", Kind: 1, Key: "", Value: "b"}, {Host: "a", Kind: 1, Key: "b", Value: ""}, {Host: "ab", Kind: 1, Key: "", Value: ""},
	}
	for i := range l {
		for k := range l {
			if i != k {
				between(t, l[i:i+1], l[k:k+1], Patch{l[i : i+1], l[k : k+1]})
			}
		}
	}
	between(t, l[:3], backwards(l), Patch{nil, l[3:]})
}

// P16.1: a list with nothing in it, and patches with nothing in them.
func TestApplyNothing(t *testing.T) {
	for _, none := range [][]host.Entry{nil, {}} {
		makes(t, none, Patch{}, nil)
		makes(t, none, Patch{[]host.Entry{}, []host.Entry{}}, nil)
		makes(t, none, Patch{Drop: list("a, b, a")}, nil)
		makes(t, none, Patch{Put: list("b, a, b")}, list("a, b"))
		makes(t, none, Patch{Drop: list("a, b"), Put: list("c, b, c")}, list("b, c"))
		makes(t, list("a"), Patch{none, none}, list("a"))
		makes(t, list("c, a, b, a"), Patch{none, none}, list("a, b, c"))
		makes(t, list("b 2 k v, b 1 k v, a 1 k w, a 1 k v"), Patch{none, none}, list("a 1 k v, a 1 k w, b 1 k v, b 2 k v"))
	}
}

// P16.1: with Drop alone, with Put alone, and with both; in the list or not, once or more often, in each order.
func TestApply(t *testing.T) {
	for _, c := range []struct{ l, drop, put, want string }{
		{"a", "a", "", ""},
		{"a, a, a", "a", "", ""},
		{"a", "a, a, a", "", ""},
		{"a, b, c", "b", "", "a, c"},
		{"c, b, a, b", "b", "", "a, c"},
		{"c, a", "b", "", "a, c"},
		{"c, a", "d, b, d, 0", "", "a, c"},
		{"c, b, a", "c, a", "", "b"},
		{"c, b, a, c, b, a", "a, c, a", "", "b"},
		{"a, b", "a, b", "", ""},
		{"a, b", "b, a, c", "", ""},
		{"a", "", "a", "a"},
		{"a, a", "", "a, a, a", "a"},
		{"b", "", "a", "a, b"},
		{"b", "", "c, a, c", "a, b, c"},
		{"c, a", "", "b, b", "a, b, c"},
		{"c, a", "", "a, c", "a, c"},
		{"a", "a", "b", "b"},
		{"b", "b", "a", "a"},
		{"a, b", "a", "c", "b, c"},
		{"c, b, a, b", "c, c, a", "e, d, e", "b, d, e"},
		// Drop and Put of one entry: it is there, if it was or not.
		{"", "a", "a", "a"},
		{"a", "a", "a", "a"},
		{"a, a", "a, a", "a, a", "a"},
		{"b", "a", "a", "a, b"},
		{"b, a", "a, b", "b", "b"},
		{"a, b, c", "c, b, a", "b, a", "a, b"},
		{"a, c", "c, b, a", "b", "b"},
		{"c, a, c", "a, b", "b, b, c", "b, c"},
	} {
		next := dice(len(c.l) + 7*len(c.drop))
		l, p, want := list(c.l), Patch{list(c.drop), list(c.put)}, list(c.want)
		makes(t, l, p, want)
		makes(t, backwards(l), Patch{backwards(p.Drop), backwards(p.Put)}, want)
		for range 5 {
			makes(t, twice(l, next), Patch{twice(p.Drop, next), twice(p.Put, next)}, want)
		}
	}
}

// P16.2: a Host that no entry has, one that all have, and one that some have; what is told stands as it stood.
func TestOnly(t *testing.T) {
	for _, none := range []Patch{{}, {[]host.Entry{}, []host.Entry{}}} {
		only(t, none, "a", Patch{})
		only(t, none, "", Patch{})
	}
	p := Patch{list("b 2, a 1 k, b 1, a 1 k, b 2, c"), list("c 3, c 1, a 2, b 2, c 3, a 1 k")}
	only(t, p, "d", Patch{})
	only(t, p, "", Patch{})
	only(t, p, "a", Patch{list("a 1 k, a 1 k"), list("a 2, a 1 k")})
	only(t, p, "b", Patch{list("b 2, b 1, b 2"), list("b 2")})
	only(t, p, "c", Patch{list("c"), list("c 3, c 1, c 3")})
	p = Patch{list("a 2, a 1, a 2, a 3 k, a 3 j"), list("a 3, a 1, a 2, a 1")}
	only(t, p, "a", p)
	only(t, p, "b", Patch{})
	only(t, p, "aa", Patch{})
	only(t, Patch{Drop: p.Drop}, "a", Patch{Drop: p.Drop})
	only(t, Patch{Put: p.Put}, "a", Patch{Put: p.Put})
}

// P16.2: a word that stands elsewhere than as Host does not count.
func TestOnlyHost(t *testing.T) {
	p := Patch{list("a 1 b c, b 1 a c, c 1 b a"), list("b 2 b b, a 2 b b, c 2 a a")}
	only(t, p, "a", Patch{list("a 1 b c"), list("a 2 b b")})
	only(t, p, "b", Patch{list("b 1 a c"), list("b 2 b b")})
	only(t, p, "c", Patch{list("c 1 b a"), list("c 2 a a")})
	named(t, p, "a", "b", "c")
	named(t, Patch{Drop: list("z 1 a b")}, "z")
	named(t, Patch{Put: list("z 1 a b, z 2 c d")}, "z")
}

// P16.2: each word as Host: of no bytes, of any bytes, and of those with which another one begins.
func TestEachHost(t *testing.T) {
	var all []host.Entry
	for _, w := range words {
		all = append(all, host.Entry{Host: w, Kind: 2, Key: "k"}, host.Entry{Host: w, Kind: 1})
	}
	for seed := range 20 {
		next := dice(seed)
		p := Patch{twice(all, next), twice(all, next)}
		named(t, p, words...)
		named(t, Patch{Drop: p.Drop}, words...)
		named(t, Patch{Put: p.Put}, words...)
		for i, w := range words {
			only(t, p, w, onlyAgain(p, w))
			only(t, p, w+"\x01", Patch{})
			only(t, p, "z"+w, Patch{})
			of := Patch{all[2*i : 2*i+2], all[2*i : 2*i+1]}
			only(t, of, w, of)
			for k, other := range words {
				if i != k {
					only(t, of, other, Patch{})
					named(t, Patch{all[2*i : 2*i+2], all[2*k : 2*k+2]}, words[min(i, k)], words[max(i, k)])
				}
			}
			named(t, of, w)
		}
	}
}

// P16.2: hosts of Drop alone, of Put alone, of both; of none at all; and many in no order.
func TestHosts(t *testing.T) {
	named(t, Patch{})
	named(t, Patch{[]host.Entry{}, []host.Entry{}})
	named(t, Patch{Drop: list("a")}, "a")
	named(t, Patch{Put: list("a")}, "a")
	named(t, Patch{list("a"), list("a")}, "a")
	named(t, Patch{list("a, a 2, a 3"), list("a 4, a")}, "a")
	named(t, Patch{list("b"), list("a")}, "a", "b")
	named(t, Patch{list("a"), list("b")}, "a", "b")
	named(t, Patch{list("c, a, c 2"), list("b, c, d, a")}, "a", "b", "c", "d")
	named(t, Patch{Drop: []host.Entry{{}}}, "")
	named(t, Patch{Put: []host.Entry{{}, {Host: "a"}, {}}}, "", "a")
	named(t, Patch{Put: list("h10, h9, h1, H1, h100, h-1")}, "H1", "h-1", "h1", "h10", "h100", "h9")
	for many := range 300 {
		next := dice(many)
		var all []string
		var p Patch
		for i := range many {
			h := fmt.Sprintf("h%03d", i)
			all = append(all, h)
			for k := range 1 + next(3) {
				x := host.Entry{Host: h, Kind: k}
				switch next(3) {
				case 0:
					p.Drop = append(p.Drop, x)
				case 1:
					p.Put = append(p.Put, x)
				default:
					p.Drop, p.Put = append(p.Drop, x), append(p.Put, x)
				}
			}
		}
		named(t, Patch{twice(p.Drop, next), twice(p.Put, next)}, all...)
	}
}

// chosen are the entries of which a number has the bit.
func chosen(all []host.Entry, n int) []host.Entry {
	var l []host.Entry
	for i, x := range all {
		if n>>i&1 == 1 {
			l = append(l, x)
		}
	}
	return l
}

// P16.1, P16.3: of all lists of a few entries, and all patches of them, each makes what the chapter says, and none that brings one to another is smaller than the one between.
func TestFew(t *testing.T) {
	for seed, text := range []string{"a, b, c, d", "a 1 k v, b 1 k v, a 2 k v, a 1 l v", "a 1 k v, a 1 k, a, b 1 k v", "b 2, a 3, b 1, a 2"} {
		next := dice(seed)
		all := setAgain(list(text))
		many := 1 << len(all)
		for a := range many {
			for b := range many {
				p := Of(twice(chosen(all, a), next), twice(chosen(all, b), next))
				if want := (Patch{chosen(all, a&^b), chosen(all, b&^a)}); !same(p, want) {
					t.Errorf("%s: %d, %d: %s", short(all), a, b, short(p))
				}
				for drop := range many {
					// Put must have what is not there else; b has at least that.
					put := b &^ (a &^ drop)
					if a&^drop|put == b && bits.OnesCount(uint(drop))+bits.OnesCount(uint(put)) < size(p) {
						t.Errorf("%s: %d, %d: %d, %d is smaller", short(all), a, b, drop, put)
					}
					makes(t, twice(chosen(all, a), next), Patch{twice(chosen(all, drop), next), twice(chosen(all, b), next)}, chosen(all, a&^drop|b))
				}
			}
		}
	}
}

// pair is two lists of entries.
type pair struct{ a, b []host.Entry }

// someEntry is one of few words and kinds, so that many are the same, or differ in one field alone.
func someEntry(next func(int) int) host.Entry {
	x := host.Entry{Host: pick(next, []string{"", "a", "aa", "b"}), Kind: 1 + next(3), Key: pick(next, []string{"", "k", "k "}), Value: pick(next, []string{"", "v", "vv"})}
	switch next(8) {
	case 0:
		x.Host = pick(next, words)
	case 1:
		x.Kind = pick(next, kinds)
	case 2:
		x.Key = pick(next, words)
	case 3:
		x.Value = pick(next, words)
	}
	return x
}

// someEntries are so many.
func someEntries(next func(int) int, many int) []host.Entry {
	var l []host.Entry
	for range many {
		l = append(l, someEntry(next))
	}
	return l
}

// somePair is two lists of unlike sizes, or one and what is left of it, and a few others.
func somePair(seed int) pair {
	next := dice(seed)
	many := seed % 60
	if seed%100 == 0 {
		many = seed
	}
	a := someEntries(next, many)
	if next(2) == 0 {
		a = setAgain(a)
	}
	if next(3) == 0 {
		return pair{a, someEntries(next, next(many+10))}
	}
	b := append(twice(a, next)[next(len(a)+1):], someEntries(next, next(5))...)
	if next(2) == 0 {
		b = setAgain(b)
	}
	return pair{a, turned(b, next)}
}

// pairs are many, of many sizes. No test writes into them.
var pairs = sync.OnceValue(func() []pair {
	all := []pair{{}, {list("a"), nil}, {nil, list("a")}}
	for seed := range 1000 {
		all = append(all, somePair(seed))
	}
	return all
})

// somePatch is one that may name what is not there, or is there.
func somePatch(c pair, next func(int) int) Patch {
	return Patch{
		twice(append(c.b[next(len(c.b)+1):], someEntries(next, next(4))...), next),
		twice(append(c.a[next(len(c.a)+1):], someEntries(next, next(4))...), next),
	}
}

// P16.1, P16.2: over many pairs of lists, each answer is what the chapter's words say.
func TestEachPair(t *testing.T) {
	var drops, puts, hosts int
	for seed, c := range pairs() {
		next := dice(seed)
		want := ofAgain(c.a, c.b)
		between(t, c.a, c.b, want)
		drops, puts = drops+len(want.Drop), puts+len(want.Put)
		for _, p := range []Patch{want, {c.a, c.b}, {c.b, c.a}, somePatch(c, next)} {
			makes(t, c.a, p, applyAgain(c.a, p))
			makes(t, nil, p, setAgain(p.Put))
			all := hostsAgain(p)
			named(t, p, all...)
			hosts += len(all)
			for _, h := range append(all, pick(next, words)) {
				only(t, p, h, onlyAgain(p, h))
			}
		}
	}
	if min(drops, puts, hosts) < 5000 {
		t.Errorf("only %d, %d, %d", drops, puts, hosts)
	}
}

// bring fails, unless the patch between two lists brings the first one to the second one, with no entry that could be missed, in each order of hosts.
func bring(t *testing.T, c pair, next func(int) int) {
	t.Helper()
	p, want := Of(c.a, c.b), setAgain(c.b)
	if got := Apply(c.a, p); !slices.Equal(got, want) {
		t.Fatalf("%s to %s: %s", short(c.a), short(c.b), short(got))
	}
	if got := Apply(want, p); !slices.Equal(got, want) {
		t.Fatalf("%s to %s, once more: %s", short(c.a), short(c.b), short(got))
	}
	if got := Apply(want, Of(c.b, c.a)); !slices.Equal(got, setAgain(c.a)) {
		t.Fatalf("%s to %s, and back: %s", short(c.a), short(c.b), short(got))
	}
	enough(t, c, p)
	byHosts(t, c.a, p, want, next)
}

// enough fails, if a patch brings a list to another one without one of its entries, or if both lists could be brought together by fewer: each entry that is in one of them alone needs one of its own.
func enough(t *testing.T, c pair, p Patch) {
	t.Helper()
	in := make(map[host.Entry]int)
	for _, x := range c.a {
		in[x] |= 1
	}
	for _, x := range c.b {
		in[x] |= 2
	}
	needed := 0
	for _, sides := range in {
		if sides != 3 {
			needed++
		}
	}
	if size(p) != needed {
		t.Fatalf("%s to %s: %d entries, and not %d", short(c.a), short(c.b), size(p), needed)
	}
	if size(p) > 40 {
		return
	}
	want := setAgain(c.b)
	for i := range p.Drop {
		less := Patch{slices.Delete(slices.Clone(p.Drop), i, i+1), p.Put}
		if slices.Equal(Apply(c.a, less), want) {
			t.Fatalf("%s to %s: without %s, too", short(c.a), short(c.b), short(p.Drop[i]))
		}
	}
	for i := range p.Put {
		less := Patch{p.Drop, slices.Delete(slices.Clone(p.Put), i, i+1)}
		if slices.Equal(Apply(c.a, less), want) {
			t.Fatalf("%s to %s: without %s, too", short(c.a), short(c.b), short(p.Put[i]))
		}
	}
}

// byHosts fails, unless a patch, host by host, makes that of a list, in all orders of few hosts and some of many; and behind each host that one alone has changed.
func byHosts(t *testing.T, l []host.Entry, p Patch, want []host.Entry, next func(int) int) {
	t.Helper()
	hosts := Hosts(p)
	all := [][]string{hosts, backwards(hosts), turned(hosts, next), turned(hosts, next)}
	if len(hosts) < 4 {
		all = nil
		for _, o := range orders(len(hosts)) {
			var some []string
			for _, i := range o {
				some = append(some, hosts[i])
			}
			all = append(all, some)
		}
	}
	for _, some := range all {
		got := setAgain(l)
		for _, h := range some {
			was := got
			got = Apply(got, Only(p, h))
			turn := ofAgain(was, got)
			for _, x := range append(turn.Drop, turn.Put...) {
				if x.Host != h {
					t.Fatalf("%s with %s: %q turned %s", short(l), short(p), h, short(x))
				}
			}
		}
		if !slices.Equal(got, want) {
			t.Fatalf("%s with %s, by %q: %s", short(l), short(p), some, short(got))
		}
	}
}

// P16.3: over many pairs of lists.
func TestBring(t *testing.T) {
	for seed, c := range pairs() {
		bring(t, c, dice(seed))
	}
}

// P16.3: whatever a patch is, the hosts may be patched one by one.
func TestByHosts(t *testing.T) {
	for seed, c := range pairs() {
		next := dice(seed)
		p := somePatch(c, next)
		byHosts(t, c.a, p, applyAgain(c.a, p), next)
	}
	p := Patch{list("a 1, b 1, c 1"), list("a 2, b 1, c 3")}
	byHosts(t, list("c 1, a 1, b 2"), p, list("a 2, b 1, b 2, c 3"), dice(1))
}

// P16.3: a list may be brought to another one by way of a third one.
func TestByWay(t *testing.T) {
	all := pairs()
	for i, c := range all[:400] {
		third := all[(i+3)%400].b
		way := Apply(Apply(c.a, Of(c.a, third)), Of(third, c.b))
		if !slices.Equal(way, setAgain(c.b)) {
			t.Fatalf("%s to %s to %s: %s", short(c.a), short(third), short(c.b), short(way))
		}
	}
}

// has: is there a line of that path?
func has(x []api.Line, path string) bool {
	_, ok := tree.Find(x, strings.Fields(path))
	return ok
}

// grow adds statements to a tree without faults, so that it has none: hosts with their networks, bindings, routes and lines of policy.
func grow(x []api.Line, next func(int) int, steps int) []api.Line {
	add := func(paths ...string) {
		longer, e := x, api.OK
		for _, p := range paths {
			if longer, e = lines.Add(longer, strings.Fields(p)); e != api.OK {
				return
			}
		}
		x = longer
	}
	for range steps {
		h, v := strconv.Itoa(next(8)), strconv.Itoa(8+next(4))
		both := has(x, "hosts h"+h) && has(x, "vnis "+v)
		at := []string{"bindings 192.168.0." + strconv.Itoa(next(99)), "routes " + strconv.Itoa(next(20)) + ".0.0.0/8", "policy " + strconv.Itoa(1+next(20))}
		switch kind := next(6); {
		case kind == 0:
			add("hosts h"+h+" ip 10.0.0."+h, "hosts h"+h+" vnis")
		case kind == 1:
			add("vnis " + v + " subnet 192.168.0.0/16")
		case kind == 2 && both:
			add("hosts h" + h + " vnis " + v)
		case kind == 3 && both && !has(x, at[0]):
			add(at[0]+" host h"+h, at[0]+" vni "+v, at[0]+" mac 00:00:00:00:00:0"+strconv.Itoa(next(9)))
		case kind == 4 && both && !has(x, at[1]):
			add(at[1] + " via h" + h)
		case kind == 5 && !has(x, at[2]):
			add(at[2] + " action " + pick(next, []string{"permit", "deny"}))
		}
	}
	return x
}

// tables are those that layer 14 makes of a tree.
func tables(t *testing.T, x []api.Line) []host.Entry {
	t.Helper()
	l, e := host.Compile(x)
	if e != api.OK {
		t.Fatalf("%s: %d", short(x), e)
	}
	return l
}

// P16.3: over layer 14's tables of pairs of trees: of one and what it grows to, of two that grow out of one, and of two others.
func TestTables(t *testing.T) {
	var last []host.Entry
	entries, hosts := 0, 0
	for seed := range 75 {
		next := dice(seed)
		base := grow(nil, next, 2*seed)
		mine, theirs := grow(base, next, 1+next(20)), grow(base, next, 1+next(20))
		a, b, c := tables(t, base), tables(t, mine), tables(t, theirs)
		for _, p := range []pair{{a, b}, {b, a}, {b, c}, {last, a}, {nil, b}, {b, nil}} {
			between(t, p.a, p.b, ofAgain(p.a, p.b))
			bring(t, p, next)
			between := Of(p.a, p.b)
			entries += size(between)
			hosts += len(Hosts(between))
		}
		last = c
	}
	if entries < 10000 || hosts < 2000 {
		t.Errorf("only %d of %d", entries, hosts)
	}
}

// P16.1, P16.3: one turn of a tree turns what hangs on it, and no other entry.
func TestOneTurn(t *testing.T) {
	add := func(x []api.Line, text string) []api.Line {
		x, e := lines.Add(x, strings.Fields(text))
		if e != api.OK {
			t.Fatalf("%q: %d", text, e)
		}
		return x
	}
	x := add(add(add(nil, "hosts a ip 10.0.0.1"), "vnis 5 subnet 10.0.0.0/8"), "hosts a vnis 5")
	y := add(add(x, "hosts b ip 10.0.0.2"), "hosts b vnis 5")
	between(t, tables(t, x), tables(t, y), Patch{nil, []host.Entry{{Host: "a", Kind: host.Flood, Key: "5", Value: "10.0.0.2"}, {Host: "b", Kind: host.Flood, Key: "5", Value: "10.0.0.1"}}})
	deny, permit := add(y, "policy 7 action deny"), add(y, "policy 7 action permit")
	of := func(value string) []host.Entry {
		return []host.Entry{{Host: "a", Kind: host.Policy, Key: "7", Value: value}, {Host: "b", Kind: host.Policy, Key: "7", Value: value}}
	}
	p := Patch{of("deny any any"), of("permit any any")}
	between(t, tables(t, deny), tables(t, permit), p)
	only(t, p, "b", Patch{p.Drop[1:], p.Put[1:]})
	named(t, p, "a", "b")
	makes(t, tables(t, deny), Only(p, "b"), slices.Concat(tables(t, y)[:1], p.Drop[:1], tables(t, y)[1:], p.Put[1:]))
}

// spare is a list with room behind it.
func spare(l []host.Entry) []host.Entry { return append(make([]host.Entry, 0, len(l)+50), l...) }

// untouched: is it as it was, and all of that room, too?
func untouched(l, was []host.Entry) bool {
	return slices.Equal(l, was) && !slices.ContainsFunc(l[len(l):cap(l)], func(x host.Entry) bool { return x != host.Entry{} })
}

// scribble writes into a list, and behind it.
func scribble(l []host.Entry) {
	l = l[:cap(l)]
	for i := range l {
		l[i] = host.Entry{Host: "q", Kind: 9, Key: "q", Value: "q"}
	}
}

// kept is a patch of which nobody else knows.
func kept(p Patch) Patch { return Patch{slices.Clone(p.Drop), slices.Clone(p.Put)} }

// R1, R3, R4: what Of is handed stays as it was, and what it answers is memory of its own: twice the same, and both lists apart.
func TestOfShares(t *testing.T) {
	for _, c := range pairs() {
		a, b := spare(c.a), spare(c.b)
		p := Of(a, b)
		want := kept(p)
		scribble(p.Drop)
		if !slices.Equal(p.Put, want.Put) {
			t.Fatalf("%s to %s: Drop and Put share", short(c.a), short(c.b))
		}
		scribble(p.Put)
		if !untouched(a, c.a) || !untouched(b, c.b) || !same(Of(a, b), want) {
			t.Fatalf("%s to %s: something was written into", short(c.a), short(c.b))
		}
		p = Of(a, b)
		scribble(a)
		scribble(b)
		if !same(p, want) {
			t.Fatalf("%s to %s: the answer was kept in a list", short(c.a), short(c.b))
		}
	}
}

// R1, R3, R4: likewise Apply.
func TestApplyShares(t *testing.T) {
	for seed, c := range pairs() {
		for _, was := range []Patch{{}, {Drop: c.b}, {Put: c.b}, ofAgain(c.a, c.b), somePatch(c, dice(seed))} {
			l, p := spare(c.a), Patch{spare(was.Drop), spare(was.Put)}
			got := Apply(l, p)
			want := slices.Clone(got)
			scribble(got)
			if !untouched(l, c.a) || !untouched(p.Drop, was.Drop) || !untouched(p.Put, was.Put) || !slices.Equal(Apply(l, p), want) {
				t.Fatalf("%s with %s: something was written into", short(c.a), short(was))
			}
			got = Apply(l, p)
			scribble(l)
			scribble(p.Drop)
			scribble(p.Put)
			if !slices.Equal(got, want) {
				t.Fatalf("%s with %s: the answer was kept in a list", short(c.a), short(was))
			}
		}
	}
}

// R1, R3, R4: likewise Only and Hosts, even where all entries are the host's.
func TestOnlyShares(t *testing.T) {
	one := pair{list("a 1, a 2, a 1"), list("a 3, a 1")}
	for _, c := range append(slices.Clone(pairs()), one) {
		for _, h := range append(hostsAgain(Patch{c.a, c.b}), "none") {
			p := Patch{spare(c.a), spare(c.b)}
			got, want := Only(p, h), onlyAgain(Patch{c.a, c.b}, h)
			scribble(got.Drop)
			if !slices.Equal(got.Put, want.Put) {
				t.Fatalf("%s of %q: Drop and Put share", short(c), h)
			}
			scribble(got.Put)
			if !untouched(p.Drop, c.a) || !untouched(p.Put, c.b) || !same(Only(p, h), want) {
				t.Fatalf("%s of %q: something was written into", short(c), h)
			}
			got = Only(p, h)
			scribble(p.Drop)
			scribble(p.Put)
			if !same(got, want) {
				t.Fatalf("%s of %q: the answer was kept in a list", short(c), h)
			}
		}
		p, want := Patch{spare(c.a), spare(c.b)}, hostsAgain(Patch{c.a, c.b})
		got := Hosts(p)
		clear(got[:cap(got)])
		if !untouched(p.Drop, c.a) || !untouched(p.Put, c.b) || !slices.Equal(Hosts(p), want) {
			t.Fatalf("%s: Hosts wrote into something", short(c))
		}
	}
}

// many are a great number of entries, some of them twice, in no order.
func many(n, from int) []host.Entry {
	l := make([]host.Entry, 0, n)
	for i := range n {
		k := from + i*7919%n
		l = append(l, host.Entry{Host: "h" + strconv.Itoa(k%97), Kind: k % 11, Key: strconv.Itoa(k / 3), Value: "v"})
	}
	return l
}

// P1: great lists, great words, and lists of one entry alone come to an end.
func TestGreat(t *testing.T) {
	const n = 100000
	a, b := many(n, 0), many(n, n/2)
	p := Of(a, b)
	if want := ofAgain(a, b); !same(p, want) || len(p.Drop) != n/2 || len(p.Put) != n/2 {
		t.Errorf("%d, %d", len(p.Drop), len(p.Put))
	}
	if got := Apply(a, p); !slices.Equal(got, setAgain(b)) {
		t.Errorf("%d entries", len(got))
	}
	if got := Hosts(p); len(got) != 97 || !slices.IsSorted(got) {
		t.Errorf("%q", got)
	}
	if got := Only(p, "h9"); !same(got, onlyAgain(p, "h9")) {
		t.Errorf("%d, %d", len(got.Drop), len(got.Put))
	}
	one := slices.Repeat(list("a"), 300000)
	between(t, one, list("b"), Patch{list("a"), list("b")})
	makes(t, one, Patch{one, one}, list("a"))
	named(t, Patch{one, one}, "a")
	long := strings.Repeat("w", 1<<24)
	x, y := host.Entry{Host: long, Key: long, Value: long}, host.Entry{Host: long, Key: long, Value: long + "w"}
	between(t, []host.Entry{x}, []host.Entry{y}, Patch{[]host.Entry{x}, []host.Entry{y}})
	makes(t, []host.Entry{y, x}, Patch{Drop: []host.Entry{x}}, []host.Entry{y})
	named(t, Patch{[]host.Entry{y}, []host.Entry{x}}, long)
	only(t, Patch{[]host.Entry{y, x}, nil}, long+"w", Patch{})
}

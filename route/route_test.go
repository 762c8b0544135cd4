package route

import (
	"fmt"
	"math"
	"slices"
	"strconv"
	"strings"
	"sync"
	"testing"

	"ferryslip/api"
	"ferryslip/host"
	"ferryslip/lines"
	"ferryslip/parse"
	"ferryslip/schema"
	"ferryslip/tree"
)

// last is the address ahead of which all others stand.
const last = 1<<32 - 1

// numberAgain says layer 10's words of a number's text again.
func numberAgain(s string, least, most int) (int, bool) {
	n, err := strconv.Atoi(s)
	return n, err == nil && n >= least && n <= most && strconv.Itoa(n) == s
}

// prefixAgain says layer 10's words of a prefix's text again: the first and the last address in it, and its length.
func prefixAgain(s string) (first, end, bits int, ok bool) {
	i := strings.LastIndex(s, "/")
	if i < 0 {
		return 0, 0, 0, false
	}
	four := strings.Split(s[:i], ".")
	if len(four) != 4 {
		return 0, 0, 0, false
	}
	for _, one := range four {
		b, ok := numberAgain(one, 0, 255)
		if !ok {
			return 0, 0, 0, false
		}
		first = first*256 + b
	}
	bits, ok = numberAgain(s[i+1:], 0, 32)
	if !ok {
		return 0, 0, 0, false
	}
	size := 1
	for range 32 - bits {
		size *= 2
	}
	return first, first + size - 1, bits, first%size == 0
}

// holds: is an address in the prefix of a text?
func holds(s string, ip int) bool {
	first, end, _, ok := prefixAgain(s)
	return ok && ip >= first && ip <= end
}

// lookupAgain says the chapter's words of Lookup again, length by length.
func lookupAgain(l []host.Entry, h string, ip int) (string, bool) {
	of := make(map[int][]string)
	for _, x := range l {
		if x.Host != h || x.Kind != 4 {
			continue
		}
		if first, end, bits, ok := prefixAgain(x.Key); ok && ip >= first && ip <= end {
			of[bits] = append(of[bits], x.Value)
		}
	}
	for bits := 32; bits >= 0; bits-- {
		if len(of[bits]) > 0 {
			return of[bits][0], true
		}
	}
	return "", false
}

// sideAgain: is it any, or a prefix?
func sideAgain(s string) bool {
	_, _, _, ok := prefixAgain(s)
	return ok || s == "any"
}

// ruleAgain says the chapter's words of a rule again, and tells its number.
func ruleAgain(x host.Entry, h string) (int, bool) {
	if x.Host != h || x.Kind != 5 {
		return 0, false
	}
	n, ok := numberAgain(x.Key, 1, 1000)
	w := strings.Split(x.Value, " ")
	return n, ok && len(w) == 3 && (w[0] == "permit" || w[0] == "deny") && sideAgain(w[1]) && sideAgain(w[2])
}

// rulesAgain says the chapter's words of Rules again, number by number.
func rulesAgain(l []host.Entry, h string) []int {
	var at [1001][]int
	for i, x := range l {
		if n, ok := ruleAgain(x, h); ok {
			at[n] = append(at[n], i)
		}
	}
	var out []int
	for n := 1; n <= 1000; n++ {
		out = append(out, at[n]...)
	}
	return out
}

// takesAgain: is it any, or a prefix in which an address is?
func takesAgain(s string, ip int) bool { return s == "any" || holds(s, ip) }

// permitAgain says the chapter's words of Permit again.
func permitAgain(l []host.Entry, h string, from, to int) bool {
	for _, i := range rulesAgain(l, h) {
		if w := strings.Split(l[i].Value, " "); takesAgain(w[1], from) && takesAgain(w[2], to) {
			return w[0] == "permit"
		}
	}
	return true
}

// short writes what is told, as far as anybody reads on.
func short(x any) string { return fmt.Sprintf("%.600s", fmt.Sprintf("%q", fmt.Sprint(x))) }

// routes are entries of the host a, each of a text: a Key, a = and a Value; a text without a = is the Value, too.
func routes(all ...string) []host.Entry { return some(host.Route, all...) }

// rules are likewise.
func rules(all ...string) []host.Entry { return some(host.Policy, all...) }

func some(kind int, all ...string) []host.Entry {
	var l []host.Entry
	for _, s := range all {
		key, value, ok := strings.Cut(s, "=")
		if !ok {
			value = key
		}
		l = append(l, host.Entry{Host: "a", Kind: kind, Key: key, Value: value})
	}
	return l
}

// of is an address of a text.
func of(t *testing.T, s string) int {
	t.Helper()
	n, _, _, ok := prefixAgain(s + "/32")
	if !ok {
		t.Fatalf("%q is no address", s)
	}
	return n
}

// finds fails, unless Lookup tells that Value, and the chapter says the same.
func finds(t *testing.T, l []host.Entry, h string, ip int, want string) {
	t.Helper()
	if got, ok := Lookup(l, h, ip); !ok || got != want {
		t.Errorf("%s: %q, %d: %q, %v; it should be %q", short(l), h, ip, short(got), ok, short(want))
	}
	if got, ok := lookupAgain(l, h, ip); !ok || got != want {
		t.Fatalf("%s: %q, %d: the chapter says %q, %v", short(l), h, ip, short(got), ok)
	}
}

// misses fails, unless Lookup tells that there is none, and the chapter says the same.
func misses(t *testing.T, l []host.Entry, h string, ip int) {
	t.Helper()
	if got, ok := Lookup(l, h, ip); ok || got != "" {
		t.Errorf("%s: %q, %d: %q, %v; there should be none", short(l), h, ip, short(got), ok)
	}
	if got, ok := lookupAgain(l, h, ip); ok {
		t.Fatalf("%s: %q, %d: the chapter says %q", short(l), h, ip, short(got))
	}
}

// ordered fails, unless Rules tells those places, and the chapter says the same.
func ordered(t *testing.T, l []host.Entry, h string, want ...int) {
	t.Helper()
	if got := Rules(l, h); !slices.Equal(got, want) {
		t.Errorf("%s: %q: %v; it should be %v", short(l), h, got, want)
	}
	if got := rulesAgain(l, h); !slices.Equal(got, want) {
		t.Fatalf("%s: %q: the chapter says %v", short(l), h, got)
	}
}

// lets fails, unless Permit answers that, and the chapter says the same.
func lets(t *testing.T, l []host.Entry, h string, from, to int, want bool) {
	t.Helper()
	if got := Permit(l, h, from, to); got != want {
		t.Errorf("%s: %q, from %d to %d: %v", short(l), h, from, to, got)
	}
	if got := permitAgain(l, h, from, to); got != want {
		t.Fatalf("%s: %q, from %d to %d: the chapter says %v", short(l), h, from, to, got)
	}
}

// noAddresses are numbers that are none.
var noAddresses = []int{-1, -2, -167772160, last + 1, last + 2, 1<<32 + 10<<24, 1 << 33, 1 << 40, math.MaxInt, math.MinInt, math.MinInt + 1, -1 << 32, -1 << 31, math.MinInt + 10<<24}

// notPrefixes are Keys that are no prefix.
var notPrefixes = []string{
	"", "/", "/0", "/8", "0/0", "0.0.0.0", "0.0.0.0/", "0.0.0.0/33", "0.0.0.0/00", "0.0.0.0/08", "0.0.0.0/-1", "0.0.0.0/+8", "0.0.0.0/ 8", "0.0.0.0/8 ", " 0.0.0.0/0", "0.0.0.0 /0", "0.0.0.0/0/0", "0.0.0.0/a",
	"0.0.0/0", "0.0.0.0.0/0", "00.0.0.0/0", "0.0.0.00/0", "256.0.0.0/8", "0.0.0.256/32", "0..0.0/0", ".0.0.0/0", "0.0.0./0", "a.0.0.0/0", "-0.0.0.0/0", "0.0.0.0\\0", "0.0.0.0/0\n", "0.0.0.0/0\x00", "\xff", "any", "local", "5", "1000",
	"10.0.0.1/8", "10.1.0.0/8", "10.0.0.1/31", "128.0.0.0/0", "0.0.0.1/0", "255.255.255.255/31", "10.0.0.128/24", "12.0.0.0/5", "10.0.0.0/4294967304", "10.0.0.0/18446744073709551624", "4294967296.0.0.0/0",
}

// everyByte has each byte once.
var everyByte = func() string {
	var b []byte
	for i := range 256 {
		b = append(b, byte(i))
	}
	return string(b)
}()

// P15.1: the chapter's example, in each order.
func TestExample(t *testing.T) {
	for _, l := range [][]host.Entry{routes("0.0.0.0/0=first", "10.0.0.0/8=second"), routes("10.0.0.0/8=second", "0.0.0.0/0=first")} {
		finds(t, l, "a", of(t, "10.1.1.1"), "second")
		finds(t, l, "a", of(t, "11.1.1.1"), "first")
	}
}

// P15.1: nothing at all, and nothing of the host.
func TestLookupNone(t *testing.T) {
	lists := [][]host.Entry{nil, {}, {{}}, routes(), routes("0.0.0.0/0"), rules("0.0.0.0/0"), {{Host: "", Kind: host.Route, Key: "0.0.0.0/0"}}}
	for i, l := range lists {
		for _, ip := range []int{0, 1, 10 << 24, last} {
			misses(t, l, "b", ip)
			if i != 4 {
				misses(t, l, "a", ip)
			}
			if i != 6 {
				misses(t, l, "", ip)
			}
		}
	}
}

// P15.1: one route, of each length, at the first and the last address of it, and at those beside.
func TestLookupEdges(t *testing.T) {
	for _, address := range []string{"0.0.0.0", "10.0.0.0", "10.1.2.3", "127.255.255.255", "128.0.0.0", "255.255.255.255", "170.170.170.170"} {
		for bits := range 33 {
			n := of(t, address) >> (32 - bits) << (32 - bits)
			key := fmt.Sprintf("%d.%d.%d.%d/%d", n>>24, n>>16&255, n>>8&255, n&255, bits)
			first, end, _, ok := prefixAgain(key)
			if !ok || first != n || end < first || end > last {
				t.Fatalf("%q: %d, %d", key, first, end)
			}
			l := routes(key + "=v")
			for _, ip := range []int{first, end, (first + end) / 2} {
				finds(t, l, "a", ip, "v")
			}
			for _, ip := range []int{first - 1, end + 1, first - 2, end + 2, first ^ 1<<(32-bits), first + 1<<32, first - 1<<32} {
				misses(t, l, "a", ip)
			}
			for _, ip := range noAddresses {
				misses(t, l, "a", ip)
			}
		}
	}
}

// P15.1: of the lengths 0, 1, 8, 31 and 32, written out.
func TestLookupLengths(t *testing.T) {
	for _, c := range []struct {
		key, first, end string
	}{
		{"0.0.0.0/0", "0.0.0.0", "255.255.255.255"}, {"0.0.0.0/1", "0.0.0.0", "127.255.255.255"}, {"128.0.0.0/1", "128.0.0.0", "255.255.255.255"}, {"10.0.0.0/8", "10.0.0.0", "10.255.255.255"},
		{"255.0.0.0/8", "255.0.0.0", "255.255.255.255"}, {"10.0.0.2/31", "10.0.0.2", "10.0.0.3"}, {"255.255.255.254/31", "255.255.255.254", "255.255.255.255"}, {"10.0.0.3/32", "10.0.0.3", "10.0.0.3"},
		{"0.0.0.0/32", "0.0.0.0", "0.0.0.0"}, {"255.255.255.255/32", "255.255.255.255", "255.255.255.255"},
	} {
		l, first, end := routes(c.key+"=v"), of(t, c.first), of(t, c.end)
		finds(t, l, "a", first, "v")
		finds(t, l, "a", end, "v")
		misses(t, l, "a", first-1)
		misses(t, l, "a", end+1)
	}
}

// P15.1: the greatest length, wherever it stands, of those that hold the address.
func TestLongest(t *testing.T) {
	all := []string{"0.0.0.0/0", "0.0.0.0/1", "10.0.0.0/8", "10.1.0.0/16", "10.1.1.0/24", "10.1.1.0/31", "10.1.1.1/32"}
	beside := []string{"128.0.0.0/1", "11.0.0.0/8", "10.2.0.0/16", "10.1.0.0/24", "10.1.1.2/31", "10.1.1.0/32", "255.255.255.255/32"}
	ip := of(t, "10.1.1.1")
	for a := range 1 << len(all) {
		var some []string
		want := ""
		for i, key := range all {
			if a>>i&1 == 1 {
				some, want = append(some, key), key
			}
			some = append(some, beside[i])
		}
		for range len(some) {
			some = append(some[1:], some[0])
			if l := routes(some...); want == "" {
				misses(t, l, "a", ip)
			} else {
				finds(t, l, "a", ip, want)
			}
		}
	}
}

// P15.1: two and three of unlike lengths, in each order.
func TestEachOrder(t *testing.T) {
	three := []string{"10.0.0.0/8", "10.1.0.0/16", "10.1.1.0/24"}
	for _, o := range [][]int{{0, 1, 2}, {0, 2, 1}, {1, 0, 2}, {1, 2, 0}, {2, 0, 1}, {2, 1, 0}} {
		l := routes(three[o[0]], three[o[1]], three[o[2]])
		finds(t, l, "a", of(t, "10.1.1.9"), three[2])
		finds(t, l, "a", of(t, "10.1.2.0"), three[1])
		finds(t, l, "a", of(t, "10.2.1.1"), three[0])
		misses(t, l, "a", of(t, "11.1.1.1"))
		for i := range l {
			two := append(slices.Clone(l[:i]), l[i+1:]...)
			finds(t, two, "a", of(t, "10.1.1.9"), three[max(o[(i+1)%3], o[(i+2)%3])])
		}
	}
}

// P15.1: of several of one length that hold the address, which are of one prefix, the first one.
func TestFirst(t *testing.T) {
	ip := of(t, "10.1.1.1")
	for _, key := range []string{"0.0.0.0/0", "0.0.0.0/1", "10.0.0.0/8", "10.1.1.0/31", "10.1.1.1/32"} {
		finds(t, routes(key+"=x", key+"=b"), "a", ip, "x")
		finds(t, routes(key+"=b", key+"=x"), "a", ip, "b")
		finds(t, routes(key+"=", key+"=x"), "a", ip, "")
		finds(t, routes(key+"=x", key+"=", key+"=a", key+"=x"), "a", ip, "x")
		finds(t, routes("10.1.1.1/8=n", "11.0.0.0/8=o", key+"=x", "10.1.1.0/32=q", key+"=b"), "a", ip, "x")
	}
	// Of one length, but of unlike prefixes, of which one alone holds it.
	finds(t, routes("9.0.0.0/8", "10.0.0.0/8", "11.0.0.0/8"), "a", ip, "10.0.0.0/8")
	finds(t, routes("11.0.0.0/8", "10.0.0.0/8", "9.0.0.0/8"), "a", ip, "10.0.0.0/8")
	misses(t, routes("9.0.0.0/8", "11.0.0.0/8"), "a", ip)
	// A shorter one that stands first is not taken, a second one of the greatest length neither.
	finds(t, routes("10.0.0.0/8=x", "10.1.0.0/16=y", "10.0.0.0/8=z", "10.1.0.0/16=w"), "a", ip, "y")
}

// P15.1: a Key that is no prefix makes no route, whatever the address is.
func TestLookupKeys(t *testing.T) {
	for _, key := range append([]string{everyByte, "any any", strings.Repeat("0", 1000), strings.Repeat("0.0.0.0/0", 100)}, notPrefixes...) {
		for _, ip := range []int{0, 1, 5, of(t, "10.0.0.1"), of(t, "10.1.0.0"), last, -1, last + 1} {
			misses(t, routes(key+"=v"), "a", ip)
			if ip >= 0 && ip <= last {
				finds(t, routes(key+"=v", "0.0.0.0/0=w", key+"=v"), "a", ip, "w")
			}
		}
	}
}

// otherKinds are not Route, and not Policy.
var otherKinds = []int{0, 1, 2, 3, 6, 7, -1, -4, -5, 8, 12, 20, 21, 256 + 4, 256 + 5, 1<<32 + 4, 1<<32 + 5, math.MaxInt, math.MinInt, math.MinInt + 4, math.MinInt + 5}

// P15.1: entries of every other Kind are no routes.
func TestLookupKinds(t *testing.T) {
	for _, kind := range append([]int{host.Policy}, otherKinds...) {
		l := some(kind, "10.0.0.0/8=v", "10.0.0.1/32=v")
		ip := of(t, "10.0.0.1")
		misses(t, l, "a", ip)
		finds(t, append(l, routes("10.0.0.0/8=w")...), "a", ip, "w")
		finds(t, append(routes("0.0.0.0/0=w"), l...), "a", ip, "w")
	}
}

// P15.1: a Value is told as it is.
func TestLookupValues(t *testing.T) {
	for _, value := range []string{"", " ", "local 0", "10.0.0.1 1.5", "permit any any", everyByte, "\x00", "\xff\xfe", strings.Repeat("v", 10000), "="} {
		finds(t, routes("10.0.0.0/8="+value), "a", 10<<24, value)
		finds(t, routes("10.0.0.0/8="+value, "10.0.0.0/8=x", "0.0.0.0/0=y"), "a", 10<<24, value)
	}
	for i := range 256 {
		finds(t, routes("0.0.0.0/0="+string([]byte{byte(i)})), "a", i, string([]byte{byte(i)}))
	}
}

// P15.1: what is no address goes nowhere, whatever routes there are.
func TestNoAddress(t *testing.T) {
	for _, l := range [][]host.Entry{nil, routes("0.0.0.0/0"), routes("0.0.0.0/0", "0.0.0.0/1", "128.0.0.0/1", "255.255.255.255/32", "0.0.0.0/32", "10.0.0.0/8")} {
		for _, ip := range noAddresses {
			misses(t, l, "a", ip)
		}
	}
	finds(t, routes("0.0.0.0/0"), "a", 0, "0.0.0.0/0")
	finds(t, routes("0.0.0.0/0"), "a", last, "0.0.0.0/0")
}

// P15.1, P15.2: hosts of which one name begins with the other, one of no bytes, one in capital letters.
func TestHosts(t *testing.T) {
	names := []string{"", "a", "aa", "ab", "A", "a ", " a", "a\x00", "\x00", "a-1", "b", everyByte, "10.0.0.0/8", "any"}
	for i, h := range names {
		l := []host.Entry{{Host: h, Kind: host.Route, Key: "0.0.0.0/0", Value: "v"}, {Host: h, Kind: host.Policy, Key: "5", Value: "deny any any"}}
		for k, other := range names {
			if i == k {
				finds(t, l, other, 7, "v")
				ordered(t, l, other, 1)
				lets(t, l, other, 7, 7, false)
				continue
			}
			misses(t, l, other, 7)
			ordered(t, l, other)
			lets(t, l, other, 7, 7, true)
		}
	}
	// What a host has shorter than another one is taken all the same.
	l := []host.Entry{{Host: "ab", Kind: host.Route, Key: "10.0.0.0/8", Value: "x"}, {Host: "a", Kind: host.Route, Key: "0.0.0.0/0", Value: "y"}, {Host: "", Kind: host.Route, Key: "10.0.0.0/16", Value: "z"}}
	for h, want := range map[string]string{"ab": "x", "a": "y", "": "z"} {
		finds(t, l, h, 10<<24, want)
	}
}

// P15.2: no entries at all, and no rule of the host.
func TestRulesNone(t *testing.T) {
	for _, l := range [][]host.Entry{nil, {}, {{}}, rules(), routes("5=deny any any"), rules("5=deny any", "0=deny any any"), {{Host: "b", Kind: host.Policy, Key: "5", Value: "deny any any"}}, routes("0.0.0.0/0=deny any any")} {
		ordered(t, l, "a")
		lets(t, l, "a", 0, 0, true)
		for _, ip := range noAddresses {
			lets(t, l, "a", ip, ip, true)
			lets(t, l, "a", ip, 1, true)
			lets(t, l, "a", 1, ip, true)
		}
	}
}

// P15.2: by numbers, and neither by bytes nor by places.
func TestNumbers(t *testing.T) {
	all := []string{"1", "2", "9", "10", "11", "19", "20", "90", "99", "100", "101", "109", "110", "190", "200", "900", "901", "910", "990", "998", "999", "1000"}
	forth := make([]string, len(all))
	back := make([]string, len(all))
	var up, down []int
	for i, n := range all {
		forth[i], back[len(all)-1-i] = n+"=permit any any", n+"=permit any any"
		up, down = append(up, i), append(down, len(all)-1-i)
	}
	ordered(t, rules(forth...), "a", up...)
	ordered(t, rules(back...), "a", down...)
	ordered(t, rules("10=deny any any", "9=deny any any", "1000=deny any any", "1=deny any any", "100=deny any any"), "a", 3, 1, 0, 4, 2)
	// Each number there is, by itself, and both beside it.
	for n := 1; n <= 1000; n++ {
		text := strconv.Itoa(n) + "=deny any any"
		ordered(t, rules(text), "a", 0)
		if n > 1 {
			ordered(t, rules(text, strconv.Itoa(n-1)+"=deny any any"), "a", 1, 0)
		}
	}
}

// P15.2: of one number in the order of the list.
func TestOneNumber(t *testing.T) {
	ordered(t, rules("5=deny any any", "5=permit any any"), "a", 0, 1)
	ordered(t, rules("5=permit any any", "5=deny any any"), "a", 0, 1)
	ordered(t, rules("5=permit any any", "5=permit any any", "5=permit any any"), "a", 0, 1, 2)
	ordered(t, rules("9=deny any any", "5=deny any any", "9=permit any any", "5=permit any any", "7=deny any any", "5=deny any any"), "a", 1, 3, 5, 4, 0, 2)
	lets(t, rules("5=deny any any", "5=permit any any"), "a", 1, 2, false)
	lets(t, rules("5=permit any any", "5=deny any any"), "a", 1, 2, true)
	lets(t, rules("5=permit 10.0.0.0/8 any", "5=deny any any", "5=permit any any"), "a", 1, 2, false)
	lets(t, rules("5=permit 10.0.0.0/8 any", "5=deny any any", "5=permit any any"), "a", 10<<24, 2, true)
	// So many that a sort that is not stable would turn them.
	var many []string
	var want []int
	for i := range 200 {
		many, want = append(many, []string{"5=permit any any", "5=deny any any"}[i%2]), append(want, i)
	}
	ordered(t, rules(many...), "a", want...)
	for i := range many {
		many[i] = strconv.Itoa(3-i%3) + many[i][1:]
	}
	slices.SortStableFunc(want, func(a, b int) int { return b%3 - a%3 })
	ordered(t, rules(many...), "a", want...)
}

// P15.2: a Key that is no number from 1 to 1000 makes no rule.
func TestNumberKeys(t *testing.T) {
	for _, key := range []string{"", "0", "1001", "01", "00", "007", "+1", "-1", "-0", " 1", "1 ", "1 1", "1.0", "1,0", "1e2", "0x1", "1_0", "a", "1a", "a1", "one", "\x00", "1\x00", "\xff", everyByte, "any", "10000", "9999999999", "10000000000",
		"4294967297", "18446744073709551617", "2147483649", "٣", "１", "10.0.0.0/8", strings.Repeat("1", 1000), strings.Repeat("0", 999) + "1"} {
		l := rules(key+"=deny any any", "7=permit any any", key+"=deny any any")
		ordered(t, l, "a", 1)
		lets(t, l[:1], "a", 1, 2, true)
		ordered(t, l[:1], "a")
	}
}

// P15.2: a Value that is not of such three words makes no rule.
func TestRuleValues(t *testing.T) {
	for _, value := range []string{
		"", " ", "  ", "   ", "permit", "deny", "permit ", "deny any", "permit any", "permit any ", "permit  any", "deny any any any", "permit any any any", "deny any any ", " deny any any", "deny  any any", "deny any  any", "deny any any  ", "  deny any any",
		"deny\tany any", "deny any\tany", "deny any any\n", "deny\nany\nany", "denyanyany", "deny,any,any", "deny any any\x00", "\x00deny any any", "deny any \x00any",
		"drop any any", "allow any any", "Permit any any", "PERMIT any any", "Deny any any", "DENY any any", "denied any any", "den any any", "permits any any", "permitdeny any any", " any any", "any any any", "any deny any", "any any deny", "10.0.0.0/8 any any",
		"deny ANY any", "deny any ANY", "deny Any any", "deny any Any", "deny an any", "deny any an", "deny anyy any", "deny any anyy", "deny * any", "deny any *", "deny  ", "deny any any 10.0.0.0/8", "deny 10.0.0.0/8", "deny 10.0.0.0/8 ", "deny 10.0.0.0/8 any any",
		everyByte, "deny any " + everyByte, "local 0", "permit any any deny any any", "permit any any\npermit any any", strings.Repeat("deny any any ", 100), strings.Repeat(" ", 1000),
	} {
		l := rules("5="+value, "7=permit any any", "3="+value)
		ordered(t, l, "a", 1)
		ordered(t, l[:1], "a")
		lets(t, l[:1], "a", 1, 2, true)
	}
	for _, bad := range notPrefixes {
		if bad == "any" {
			continue
		}
		for _, value := range []string{"deny " + bad + " any", "deny any " + bad, "deny " + bad + " 10.0.0.0/8", "deny 10.0.0.0/8 " + bad, "deny " + bad + " " + bad, bad + " any any"} {
			l := rules("5=" + value)
			ordered(t, l, "a")
			lets(t, l, "a", 1, 2, true)
			lets(t, l, "a", 10<<24, 10<<24, true)
		}
	}
}

// P15.2: any and a prefix, in each place.
func TestRuleWords(t *testing.T) {
	for _, action := range []string{"permit", "deny"} {
		for _, from := range []string{"any", "0.0.0.0/0", "128.0.0.0/1", "10.0.0.0/8", "10.0.0.2/31", "255.255.255.255/32"} {
			for _, to := range []string{"any", "0.0.0.0/0", "0.0.0.0/1", "11.0.0.0/8", "11.0.0.2/31", "0.0.0.0/32"} {
				ordered(t, rules("5="+action+" "+from+" "+to), "a", 0)
			}
		}
	}
}

// P15.2: entries of every other Kind are no rules.
func TestRuleKinds(t *testing.T) {
	for _, kind := range append([]int{host.Route}, otherKinds...) {
		l := append(some(kind, "5=deny any any"), rules("7=permit any any")...)
		ordered(t, l, "a", 1)
		lets(t, l, "a", 1, 2, true)
		ordered(t, l[:1], "a")
		lets(t, l[:1], "a", 1, 2, true)
	}
}

// P15.2: one rule that takes, and one that does not.
func TestPermitOne(t *testing.T) {
	lets(t, nil, "a", 1, 2, true)
	for _, c := range []struct {
		action string
		want   bool
	}{{"permit", true}, {"deny", false}} {
		lets(t, rules("5="+c.action+" any any"), "a", 1, 2, c.want)
		lets(t, rules("5="+c.action+" 0.0.0.0/0 0.0.0.0/0"), "a", 0, last, c.want)
		lets(t, rules("5="+c.action+" 10.0.0.0/8 any"), "a", 10<<24, 2, c.want)
		lets(t, rules("5="+c.action+" 10.0.0.0/8 any"), "a", 11<<24, 10<<24, true)
		lets(t, rules("5="+c.action+" any 10.0.0.0/8"), "a", 2, 10<<24, c.want)
		lets(t, rules("5="+c.action+" any 10.0.0.0/8"), "a", 10<<24, 11<<24, true)
	}
}

// P15.2: the first one that takes both tells, by number and not by place.
func TestPermitFirst(t *testing.T) {
	l := rules("20=permit any any", "10=deny 10.0.0.0/8 any", "9=permit 10.1.0.0/16 11.0.0.0/8", "100=deny any any", "5=deny any 11.1.1.1/32")
	for _, c := range []struct {
		from, to string
		want     bool
	}{
		{"10.1.0.1", "11.0.0.1", true},
		{"10.1.0.1", "11.1.1.1", false},
		{"10.1.0.1", "12.0.0.1", false},
		{"10.2.0.1", "11.0.0.1", false},
		{"9.1.0.1", "11.0.0.1", true},
		{"9.1.0.1", "11.1.1.1", false},
		{"9.1.0.1", "9.9.9.9", true},
	} {
		for range l {
			l = append(slices.Clone(l[1:]), l[0])
			lets(t, l, "a", of(t, c.from), of(t, c.to), c.want)
		}
	}
	lets(t, rules("10=deny any any", "9=permit any any"), "a", 1, 2, true)
	lets(t, rules("9=permit any any", "10=deny any any"), "a", 1, 2, true)
	lets(t, rules("10=permit any any", "9=deny any any"), "a", 1, 2, false)
	lets(t, rules("9=deny any any", "10=permit any any"), "a", 1, 2, false)
	lets(t, rules("1000=deny any any", "2=permit any any"), "a", 1, 2, true)
	// A rule that is none does not tell, even if it would stand first.
	lets(t, rules("0=deny any any", "1=deny any", "01=deny any any", "7=permit any any"), "a", 1, 2, true)
}

// P15.2: from and to, each inside and outside of each prefix, at its first and its last address.
func TestPermitEdges(t *testing.T) {
	sides := []string{"any", "0.0.0.0/0", "0.0.0.0/1", "128.0.0.0/1", "10.0.0.0/8", "10.0.0.2/31", "10.0.0.3/32", "0.0.0.0/32", "255.255.255.255/32"}
	at := func(s string) []int {
		if s == "any" {
			return []int{0, last, 10 << 24, -1, last + 1}
		}
		first, end, _, _ := prefixAgain(s)
		return []int{first - 1, first, (first + end) / 2, end, end + 1}
	}
	for _, from := range sides {
		for _, to := range sides {
			for _, action := range []string{"permit", "deny"} {
				l := rules("5=" + action + " " + from + " " + to)
				behind := rules("5="+action+" "+from+" "+to, "6=deny any any")
				for _, a := range at(from) {
					for _, b := range at(to) {
						takes := (from == "any" || holds(from, a)) && (to == "any" || holds(to, b))
						lets(t, l, "a", a, b, !takes || action == "permit")
						lets(t, behind, "a", a, b, takes && action == "permit")
					}
				}
			}
		}
	}
}

// P15.2: what is no address is taken by any alone, and by no prefix, even of the length 0.
func TestPermitNoAddress(t *testing.T) {
	for _, no := range noAddresses {
		for _, c := range []struct {
			value    string
			from, to bool // is it taken, if there is none?
		}{
			{"deny any any", true, true},
			{"deny 0.0.0.0/0 any", false, true},
			{"deny any 0.0.0.0/0", true, false},
			{"deny 0.0.0.0/0 0.0.0.0/0", false, false},
			{"deny 0.0.0.0/1 any", false, true},
			{"deny any 0.0.0.0/32", true, false},
		} {
			l := rules("5=" + c.value)
			lets(t, l, "a", 0, 0, false)
			lets(t, l, "a", no, 0, !c.from)
			lets(t, l, "a", 0, no, !c.to)
			lets(t, l, "a", no, no, !(c.from && c.to))
		}
	}
}

// dice makes numbers, always the same ones of one seed, each from 0 to below-1.
func dice(seed int) func(below int) int {
	x := uint64(seed)*0x9e3779b97f4a7c15 + 1
	return func(below int) int {
		x = x*6364136223846793005 + 1442695040888963407
		return int(x >> 33 % uint64(below))
	}
}

// pick is one of several.
func pick[T any](next func(int) int, l []T) T { return l[next(len(l))] }

// somePrefix is one of few addresses and of all lengths, so that many are in one another.
func somePrefix(next func(int) int) string {
	bits := next(33)
	n := pick(next, []int{10 << 24, 10<<24 + 1<<16, 10<<24 + 1<<16 + 1<<8 + 1, 0, last, 192<<24 + 168<<16}) >> (32 - bits) << (32 - bits)
	return fmt.Sprintf("%d.%d.%d.%d/%d", n>>24, n>>16&255, n>>8&255, n&255, bits)
}

// someAddress is one in or beside those prefixes, or seldom none.
func someAddress(next func(int) int) int {
	if next(10) == 0 {
		return pick(next, noAddresses)
	}
	return pick(next, []int{10 << 24, 10<<24 + 1<<16, 10<<24 + 1<<16 + 1<<8 + 1, 0, last, 192<<24 + 168<<16}) ^ next(1<<uint(next(33)))
}

// someSide is a word of a rule, seldom a wrong one.
func someSide(next func(int) int) string {
	switch next(20) {
	case 0:
		return pick(next, notPrefixes)
	case 1, 2, 3, 4:
		return "any"
	}
	return somePrefix(next)
}

// hostNames are those of the entries that are tried.
var hostNames = []string{"a", "ab", "", "b"}

// someEntry is mostly a route or a rule, and seldom a wrong one.
func someEntry(next func(int) int) host.Entry {
	x := host.Entry{Host: pick(next, hostNames), Kind: host.Route, Key: somePrefix(next), Value: strconv.Itoa(next(20))}
	switch next(12) {
	case 0:
		x.Kind = pick(next, otherKinds)
	case 1:
		x.Key = pick(next, notPrefixes)
	case 2, 3, 4, 5, 6, 7:
		x.Kind, x.Key = host.Policy, strconv.Itoa(next(1003))
		x.Value = pick(next, []string{"permit", "deny", "deny", "permit", "deny", "drop"}) + " " + someSide(next) + " " + someSide(next)
		if next(3) == 0 {
			x.Key = pick(next, []string{"1", "2", "9", "10", "01", "100", "1000", "1001", "0"})
		}
	}
	return x
}

// someEntries are so many.
func someEntries(seed, size int) []host.Entry {
	next := dice(seed)
	var l []host.Entry
	for range size {
		l = append(l, someEntry(next))
	}
	return l
}

// rows are lists of entries of many sizes. No test writes into them.
var rows = sync.OnceValue(func() [][]host.Entry {
	var all [][]host.Entry
	for seed := range 1500 {
		size := seed % 60
		if seed%50 == 0 {
			size = seed
		}
		all = append(all, someEntries(seed, size))
	}
	return all
})

// P15.1, P15.2: over many rows of entries, each answer is what the chapter's words say.
func TestEachRow(t *testing.T) {
	var found, missed, permitted, denied, told int
	for seed, l := range rows() {
		next := dice(seed)
		for _, h := range append([]string{"c"}, hostNames...) {
			for range 8 {
				ip, from, to := someAddress(next), someAddress(next), someAddress(next)
				if want, ok := lookupAgain(l, h, ip); ok {
					finds(t, l, h, ip, want)
					found++
				} else {
					misses(t, l, h, ip)
					missed++
				}
				if want := permitAgain(l, h, from, to); want {
					lets(t, l, h, from, to, want)
					permitted++
				} else {
					lets(t, l, h, from, to, want)
					denied++
				}
			}
			want := rulesAgain(l, h)
			ordered(t, l, h, want...)
			told += len(want)
		}
	}
	if min(found, missed, permitted, denied, told) < 5000 {
		t.Errorf("only %d, %d, %d, %d, %d", found, missed, permitted, denied, told)
	}
}

// turned is a list in another order.
func turned(l []host.Entry, next func(int) int) []host.Entry {
	l = slices.Clone(l)
	for i := range l {
		k := next(i + 1)
		l[i], l[k] = l[k], l[i]
	}
	return l
}

// apart leaves out, of several routes of one host and one prefix, and of several rules of one host and one number, all but the first.
func apart(l []host.Entry) []host.Entry {
	var out []host.Entry
	for _, x := range l {
		like := func(y host.Entry) bool { return x.Host == y.Host && x.Kind == y.Kind && x.Key == y.Key }
		if !slices.ContainsFunc(out, like) {
			out = append(out, x)
		}
	}
	return out
}

// P15.3: the order in which routes of unlike prefixes, and rules of unlike numbers, stand makes no difference.
func TestAnyOrder(t *testing.T) {
	for seed, l := range rows() {
		next := dice(seed)
		l = apart(l)
		other := turned(l, next)
		for _, h := range hostNames {
			for range 4 {
				ip, from, to := someAddress(next), someAddress(next), someAddress(next)
				a, ok := Lookup(l, h, ip)
				b, is := Lookup(other, h, ip)
				if a != b || ok != is || Permit(l, h, from, to) != Permit(other, h, from, to) {
					t.Fatalf("%s, %q, %d, %d, %d: in another order it is another answer", short(l), h, ip, from, to)
				}
			}
			one, two := Rules(l, h), Rules(other, h)
			like := func(i, k int) bool { return l[i] == other[k] }
			if !slices.EqualFunc(one, two, like) {
				t.Fatalf("%s, %q: %v, %v", short(l), h, one, two)
			}
		}
	}
}

// P15.3: what is of other hosts and of other kinds makes no difference.
func TestOthers(t *testing.T) {
	for seed, l := range rows() {
		next := dice(seed)
		for _, h := range hostNames {
			only := func(kind int) []host.Entry {
				return slices.DeleteFunc(slices.Clone(l), func(x host.Entry) bool { return x.Host != h || x.Kind != kind })
			}
			routes, policy := only(host.Route), only(host.Policy)
			for range 4 {
				ip, from, to := someAddress(next), someAddress(next), someAddress(next)
				a, ok := Lookup(l, h, ip)
				b, is := Lookup(routes, h, ip)
				if a != b || ok != is || Permit(l, h, from, to) != Permit(policy, h, from, to) {
					t.Fatalf("%s, %q, %d, %d, %d: without the others it is another answer", short(l), h, ip, from, to)
				}
			}
			one, two := Rules(l, h), Rules(policy, h)
			like := func(i, k int) bool { return l[i] == policy[k] }
			if !slices.EqualFunc(one, two, like) {
				t.Fatalf("%s, %q: %v, %v", short(l), h, one, two)
			}
		}
	}
}

// treeOf makes a tree of a text with braces.
func treeOf(t *testing.T, s string) []api.Line {
	t.Helper()
	x, at, e := parse.Tree(s)
	if e != api.OK {
		t.Fatalf("%q: %d, %d", s, at, e)
	}
	return x
}

// tables are those that layer 14 makes of a tree.
func tables(t *testing.T, x []api.Line) []host.Entry {
	t.Helper()
	l, e := host.Compile(x)
	if e != api.OK {
		t.Fatalf("%s: %d", short(x), e)
	}
	return l
}

// P15.1, P15.2: layer 14's tables of a tree are read as its lines say.
func TestTables(t *testing.T) {
	l := tables(t, treeOf(t, `hosts { a { ip { 10.0.0.1; } } b { ip { 10.0.0.2; } } }
		routes { 10.0.0.0/8 { via { b; } } 10.1.0.0/16 { via { a; } metric { 1.5; } } 0.0.0.0/0 { via { a; } } }
		policy { 10 { action { deny; } } 9 { action { permit; } from { 10.0.0.0/8; } } 1000 { action { permit; } } 1 { action { deny; } to { 10.1.1.1/32; } } }`))
	for _, c := range []struct{ ip, a, b string }{{"10.2.0.0", "10.0.0.2 0", "local 0"}, {"10.1.255.255", "local 1.5", "10.0.0.1 1.5"}, {"11.0.0.0", "local 0", "10.0.0.1 0"}} {
		finds(t, l, "a", of(t, c.ip), c.a)
		finds(t, l, "b", of(t, c.ip), c.b)
	}
	for _, h := range []string{"a", "b"} {
		lets(t, l, h, of(t, "10.0.0.1"), of(t, "10.1.1.1"), false)
		lets(t, l, h, of(t, "10.0.0.1"), of(t, "10.1.1.2"), true)
		lets(t, l, h, of(t, "11.0.0.1"), of(t, "10.1.1.2"), false)
		var numbers []string
		for _, i := range Rules(l, h) {
			numbers = append(numbers, l[i].Key)
		}
		if want := []string{"1", "9", "10", "1000"}; !slices.Equal(numbers, want) {
			t.Errorf("%v", numbers)
		}
	}
	misses(t, l, "c", 1)
	ordered(t, l, "c")
	lets(t, l, "c", 1, 2, true)
}

// under tells the one word that stands under the line of a path, if there is that line.
func under(x []api.Line, path ...string) (string, bool) {
	i, ok := tree.Find(x, path)
	if !ok {
		return "", false
	}
	return x[i+1].Word, true
}

// someTree is one without faults: hosts, routes and lines of policy.
func someTree(t *testing.T, seed int) []api.Line {
	t.Helper()
	next := dice(seed)
	var x []api.Line
	add := func(path ...string) {
		longer, e := lines.Add(x, path)
		if e != api.OK {
			t.Fatalf("%s: %q: %d", short(x), path, e)
		}
		x = longer
	}
	hosts := 1 + next(4)
	for i := range hosts {
		add("hosts", "h"+strconv.Itoa(i), "ip", "10.0.0."+strconv.Itoa(i))
	}
	for range next(12) {
		at := []string{"routes", somePrefix(next)}
		if _, ok := tree.Find(x, at); ok {
			continue
		}
		add(append(at, "via", "h"+strconv.Itoa(next(hosts)))...)
		if next(2) == 0 {
			add(append(at, "metric", strconv.Itoa(1+next(9)))...)
		}
	}
	for range next(12) {
		at := []string{"policy", strconv.Itoa(1 + next(1000))}
		if _, ok := tree.Find(x, at); ok {
			continue
		}
		add(append(at, "action", pick(next, []string{"permit", "deny"}))...)
		for _, w := range []string{"from", "to"} {
			if next(2) == 0 {
				add(append(at, w, somePrefix(next))...)
			}
		}
	}
	return x
}

// lineRoute tells the Value that a host has for an address, by the lines of a tree alone.
func lineRoute(x []api.Line, h string, ip int) (string, bool) {
	value, longest := "", -1
	at, ok := tree.Find(x, []string{"routes"})
	if !ok {
		return "", false
	}
	for _, k := range tree.Kids(x, at) {
		p := x[k].Word
		_, _, bits, _ := prefixAgain(p)
		if !holds(p, ip) || bits < longest {
			continue
		}
		via, _ := under(x, "routes", p, "via")
		next, _ := under(x, "hosts", via, "ip")
		if via == h {
			next = "local"
		}
		metric, ok := under(x, "routes", p, "metric")
		if !ok {
			metric = "0"
		}
		value, longest = next+" "+metric, bits
	}
	return value, longest >= 0
}

// linePermit tells what the first line of policy that takes both says.
func linePermit(x []api.Line, from, to int) bool {
	for n := 1; n <= 1000; n++ {
		at := []string{"policy", strconv.Itoa(n)}
		action, ok := under(x, append(at, "action")...)
		a, isFrom := under(x, append(at, "from")...)
		b, isTo := under(x, append(at, "to")...)
		if ok && (!isFrom || holds(a, from)) && (!isTo || holds(b, to)) {
			return action == "permit"
		}
	}
	return true
}

// P15.1, P15.2: over many trees without faults, each host does what their lines say.
func TestEachTree(t *testing.T) {
	var found, denied int
	for seed := range 250 {
		x := someTree(t, seed)
		if l, e := schema.Check(x); len(l) > 0 || e != api.OK {
			t.Fatalf("%s: %s, %d", short(x), short(l), e)
		}
		l := tables(t, x)
		next := dice(seed)
		for i := range 4 {
			h := "h" + strconv.Itoa(i)
			if _, ok := tree.Find(x, []string{"hosts", h}); !ok {
				misses(t, l, h, 10<<24)
				lets(t, l, h, 1, 2, true)
				continue
			}
			for range 4 {
				ip, from, to := someAddress(next), someAddress(next), someAddress(next)
				if want, ok := lineRoute(x, h, ip); ok {
					finds(t, l, h, ip, want)
					found++
				} else {
					misses(t, l, h, ip)
				}
				want := linePermit(x, from, to)
				lets(t, l, h, from, to, want)
				if !want {
					denied++
				}
			}
		}
	}
	if min(found, denied) < 500 {
		t.Errorf("only %d, %d", found, denied)
	}
}

// P1: great lists, and great texts, end.
func TestGreat(t *testing.T) {
	long := strings.Repeat("any ", 1<<22)
	for _, text := range []string{long, strings.Repeat(".", 1<<24), strings.Repeat("/", 1<<24), strings.Repeat("1", 1<<24), strings.Repeat("0.0.0.0/0 ", 1<<20), strings.Repeat(" ", 1<<24)} {
		l := []host.Entry{{Host: "a", Kind: host.Route, Key: text, Value: "v"}, {Host: "a", Kind: host.Policy, Key: text, Value: "deny any any"}, {Host: "a", Kind: host.Policy, Key: "5", Value: text}, {Host: "a", Kind: host.Policy, Key: "5", Value: "deny any " + text},
			{Host: text, Kind: host.Route, Key: "0.0.0.0/0", Value: text}}
		if s, ok := Lookup(l, "a", 1); ok || s != "" || len(Rules(l, "a")) != 0 || !Permit(l, "a", 1, 2) {
			t.Errorf("%.20q: there should be nothing", text)
		}
		if s, ok := Lookup(l, text, 1); !ok || s != text {
			t.Errorf("%.20q: %v", text, ok)
		}
	}
	const many = 200000
	var l []host.Entry
	for i := range many {
		l = append(l, host.Entry{Host: "a", Kind: host.Route + i%2, Key: []string{"10.0.0.0/8", strconv.Itoa(1000 - i%1000)}[i%2], Value: "permit 10.0.0.0/8 any"})
	}
	l[many-2].Key, l[many-2].Value = "10.0.0.0/9", "w"
	l[many-1].Key, l[many-1].Value = "1000", "deny any any"
	if s, ok := Lookup(l, "a", 10<<24); s != "w" || !ok {
		t.Errorf("%q, %v", s, ok)
	}
	if r := Rules(l, "a"); len(r) != many/2 || r[len(r)-1] != many-1 || l[r[0]].Key != "1" {
		t.Errorf("%d", len(r))
	}
	if Permit(l, "a", 1, 2) || !Permit(l, "a", 10<<24, 2) {
		t.Error("Permit")
	}
}

// R1, R3, R4: what is handed over stays as it was, all behind it, too, and what is answered is memory of its own.
func TestShares(t *testing.T) {
	for seed, was := range append([][]host.Entry{nil, {}, {{}}}, rows()...) {
		l := append(make([]host.Entry, 0, len(was)+20), was...)
		next := dice(seed)
		for _, h := range hostNames {
			ip, from, to := someAddress(next), someAddress(next), someAddress(next)
			places := Rules(l, h)
			kept := slices.Clone(places)
			value, ok := Lookup(l, h, ip)
			yes := Permit(l, h, from, to)
			places = places[:cap(places)]
			for i := range places {
				places[i] = -7
			}
			again, is := Lookup(l, h, ip)
			if !slices.Equal(Rules(l, h), kept) || again != value || is != ok || Permit(l, h, from, to) != yes {
				t.Fatalf("%s, %q: it answers other than before", short(was), h)
			}
		}
		behind := slices.ContainsFunc(l[len(l):cap(l)], func(x host.Entry) bool { return x != host.Entry{} })
		if !slices.Equal(l, was) || behind {
			t.Fatalf("%s: something was written into", short(was))
		}
		places := Rules(l, "a")
		kept := slices.Clone(places)
		for i := range l {
			l[i] = host.Entry{Host: "q", Kind: 9, Key: "q", Value: "q"}
		}
		if !slices.Equal(places, kept) {
			t.Fatalf("%s: the answer was kept in the list", short(was))
		}
	}
}

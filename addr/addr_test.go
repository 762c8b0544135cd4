package addr

import (
	"fmt"
	"math"
	"regexp"
	"slices"
	"strconv"
	"strings"
	"sync"
	"testing"
)

const (
	greatestNum = 9999999999
	greatestIP  = 1<<32 - 1
	greatestMAC = 1<<48 - 1
)

// The chapter's words, said once more.
var (
	numWords    = regexp.MustCompile(`\A(0|[1-9][0-9]{0,9})\z`)
	ipWords     = regexp.MustCompile(`\A(` + byteWords + `)\.(` + byteWords + `)\.(` + byteWords + `)\.(` + byteWords + `)\z`)
	prefixWords = regexp.MustCompile(`\A([^/]*)/([0-9]|[12][0-9]|3[0-2])\z`)
	macWords    = regexp.MustCompile(`\A[0-9a-f]{2}(:[0-9a-f]{2}){5}\z`)
)

const byteWords = `[0-9]|[1-9][0-9]|1[0-9][0-9]|2[0-4][0-9]|25[0-5]`

// value reads digits of a base, of which it is known that they are digits.
func value(t *testing.T, s string, base int) int {
	t.Helper()
	n, e := strconv.ParseInt(s, base, 64)
	if e != nil {
		t.Fatalf("%q: %v", s, e)
	}
	return int(n)
}

// saidNum is what Num is to answer.
func saidNum(t *testing.T, s string, least, most int) (int, bool) {
	t.Helper()
	if !numWords.MatchString(s) {
		return 0, false
	}
	n := value(t, s, 10)
	if n < least || n > most {
		return 0, false
	}
	return n, true
}

// saidIP is what IP is to answer.
func saidIP(t *testing.T, s string) (int, bool) {
	t.Helper()
	parts := ipWords.FindStringSubmatch(s)
	if parts == nil {
		return 0, false
	}
	n := 0
	for _, part := range parts[1:] {
		n = n*256 + value(t, part, 10)
	}
	return n, true
}

// power is a power of two.
func power(n int) int {
	p := 1
	for range n {
		p *= 2
	}
	return p
}

// aPrefix tells by a division whether bits behind are set.
func aPrefix(n, length int) bool {
	return n >= 0 && n <= greatestIP && length >= 0 && length <= 32 && n%power(32-length) == 0
}

// saidPrefix is what Prefix is to answer.
func saidPrefix(t *testing.T, s string) (int, int, bool) {
	t.Helper()
	parts := prefixWords.FindStringSubmatch(s)
	if parts == nil {
		return 0, 0, false
	}
	n, ok := saidIP(t, parts[1])
	length := value(t, parts[2], 10)
	if !ok || !aPrefix(n, length) {
		return 0, 0, false
	}
	return n, length, true
}

// saidMAC is what MAC is to answer.
func saidMAC(t *testing.T, s string) (int, bool) {
	t.Helper()
	if !macWords.MatchString(s) {
		return 0, false
	}
	return value(t, strings.ReplaceAll(s, ":", ""), 16), true
}

// saidIPText is what IPText is to answer.
func saidIPText(n int) (string, bool) {
	if n < 0 || n > greatestIP {
		return "", false
	}
	return fmt.Sprintf("%d.%d.%d.%d", n/power(24), n/power(16)%256, n/256%256, n%256), true
}

// saidPrefixText is what PrefixText is to answer.
func saidPrefixText(n, length int) (string, bool) {
	if !aPrefix(n, length) {
		return "", false
	}
	s, _ := saidIPText(n)
	return fmt.Sprintf("%s/%d", s, length), true
}

// saidMACText is what MACText is to answer.
func saidMACText(n int) (string, bool) {
	if n < 0 || n > greatestMAC {
		return "", false
	}
	digits := fmt.Sprintf("%012x", n)
	return strings.Join([]string{digits[:2], digits[2:4], digits[4:6], digits[6:8], digits[8:10], digits[10:]}, ":"), true
}

// saidIn is what In is to answer: an address is one of the numbers from the prefix's own on that its length leaves.
func saidIn(n, length, ip int) bool {
	return aPrefix(n, length) && ip >= n && ip < n+power(32-length)
}

// num fails, unless Num answers that.
func num(t *testing.T, s string, least, most, want int, ok bool) {
	t.Helper()
	if n, is := Num(s, least, most); n != want || is != ok {
		t.Errorf("%.40q from %d to %d: %d, %v; it should be %d, %v", s, least, most, n, is, want, ok)
	}
}

// ip fails, unless IP answers that.
func ip(t *testing.T, s string, want int, ok bool) {
	t.Helper()
	if n, is := IP(s); n != want || is != ok {
		t.Errorf("address %.40q: %d, %v; it should be %d, %v", s, n, is, want, ok)
	}
}

// prefix fails, unless Prefix answers that.
func prefix(t *testing.T, s string, want, length int, ok bool) {
	t.Helper()
	if n, l, is := Prefix(s); n != want || l != length || is != ok {
		t.Errorf("prefix %.40q: %d, %d, %v; it should be %d, %d, %v", s, n, l, is, want, length, ok)
	}
}

// mac fails, unless MAC answers that.
func mac(t *testing.T, s string, want int, ok bool) {
	t.Helper()
	if n, is := MAC(s); n != want || is != ok {
		t.Errorf("hardware address %.40q: %d, %v; it should be %d, %v", s, n, is, want, ok)
	}
}

// ipText fails, unless IPText answers that.
func ipText(t *testing.T, n int, want string, ok bool) {
	t.Helper()
	if s, is := IPText(n); s != want || is != ok {
		t.Errorf("address %d: %q, %v; it should be %q, %v", n, s, is, want, ok)
	}
}

// prefixText fails, unless PrefixText answers that.
func prefixText(t *testing.T, n, length int, want string, ok bool) {
	t.Helper()
	if s, is := PrefixText(n, length); s != want || is != ok {
		t.Errorf("prefix %d, %d: %q, %v; it should be %q, %v", n, length, s, is, want, ok)
	}
}

// macText fails, unless MACText answers that.
func macText(t *testing.T, n int, want string, ok bool) {
	t.Helper()
	if s, is := MACText(n); s != want || is != ok {
		t.Errorf("hardware address %d: %q, %v; it should be %q, %v", n, s, is, want, ok)
	}
}

// in fails, unless In answers that.
func in(t *testing.T, n, length, ip int, want bool) {
	t.Helper()
	if is := In(n, length, ip); is != want {
		t.Errorf("%d in %d, %d: %v", ip, n, length, is)
	}
}

// asSaid holds all four readers against the chapter's words.
func asSaid(t *testing.T, s string) {
	t.Helper()
	n, ok := saidNum(t, s, math.MinInt, math.MaxInt)
	num(t, s, math.MinInt, math.MaxInt, n, ok)
	n, ok = saidIP(t, s)
	ip(t, s, n, ok)
	n, length, ok := saidPrefix(t, s)
	prefix(t, s, n, length, ok)
	n, ok = saidMAC(t, s)
	mac(t, s, n, ok)
}

// each calls f with every text of at most n bytes of the alphabet.
func each(alphabet string, n int, f func(s string)) {
	var grow func(s string)
	grow = func(s string) {
		f(s)
		if len(s) == n {
			return
		}
		for i := 0; i < len(alphabet); i++ {
			grow(s + alphabet[i:i+1])
		}
	}
	grow("")
}

// sizes are numbers of every size, of both signs, with those right beside the powers of two and ten.
func sizes() []int {
	l := []int{0, math.MaxInt, math.MaxInt - 1, math.MinInt, math.MinInt + 1}
	for p := 1; p <= math.MaxInt/2; p *= 2 {
		l = append(l, p-1, p, p+1, -p+1, -p, -p-1)
	}
	for p := 1; p <= math.MaxInt/10; p *= 10 {
		l = append(l, p-1, p, p+1, -p+1, -p, -p-1)
	}
	slices.Sort(l)
	return slices.Compact(l)
}

// many are n numbers from 0 on below 2^size, the same ones in each run. The low bits of x are left out, as they come round too soon.
func many(n, size int) []int {
	var l []int
	x := uint64(1)
	for range n {
		x = x*6364136223846793005 + 1442695040888963407
		l = append(l, int(x>>(64-size)))
	}
	return l
}

// outside are lengths that no prefix has.
func outside() []int {
	return []int{-1, -2, -31, -32, -33, -64, math.MinInt, math.MinInt + 1, 33, 34, 40, 63, 64, 65, 255, 256, math.MaxInt}
}

// beyond are numbers that no address is, some of them with bits like those of one.
func beyond() []int {
	return []int{-1, -2, -256, -(1 << 31), -(1 << 32), math.MinInt, math.MinInt + 1, 1 << 32, 1<<32 + 1, 1<<32 + 167772160, 1 << 33, 1 << 48, 1 << 62, math.MaxInt}
}

// P10.1: the chapter's examples.
func TestExamples(t *testing.T) {
	prefix(t, "10.0.0.0/8", 167772160, 8, true)
	prefixText(t, 167772160, 8, "10.0.0.0/8", true)
	in(t, 167772160, 8, 167772161, true)
	ip(t, "10.0.0.1", 167772161, true)
	ipText(t, 167772161, "10.0.0.1", true)
	ip(t, "1.2.3.4", 1<<24+2<<16+3<<8+4, true)
	mac(t, "01:23:45:67:89:ab", 0x0123456789ab, true)
	macText(t, 0x0123456789ab, "01:23:45:67:89:ab", true)
	macText(t, 0xcdef00, "00:00:00:cd:ef:00", true)
	num(t, "7", 1, 1000, 7, true)
}

// P10.1: texts of 1 to 10 digits, and those of more.
func TestNumDigits(t *testing.T) {
	for _, s := range []string{"0", "1", "2", "3", "4", "5", "6", "7", "8", "9", "10", "19", "90", "100", "101", "1234567890", "1000000000", "9999999999", "9999999998",
		"2147483647", "2147483648", "4294967295", "4294967296", "9223372036"} {
		num(t, s, math.MinInt, math.MaxInt, value(t, s, 10), true)
		num(t, s, 0, greatestNum, value(t, s, 10), true)
	}
	for n := 1; n <= 30; n++ {
		for _, digit := range "0123456789" {
			s := strings.Repeat(string(digit), n)
			if n <= 10 && digit != '0' || n == 1 {
				num(t, s, 0, math.MaxInt, value(t, s, 10), true)
			} else {
				num(t, s, math.MinInt, math.MaxInt, 0, false)
			}
		}
	}
	for _, s := range []string{"", "00", "01", "09", "000", "001", "010", "0000000000", "0000000001", "0123456789", "00000000000", "00000000001", "01234567890",
		"10000000000", "12345678901", "99999999999", "9223372036854775807", "18446744073709551616", "18446744073709551617", strings.Repeat("1", 100000), strings.Repeat("0", 100000)} {
		num(t, s, math.MinInt, math.MaxInt, 0, false)
		num(t, s, 0, 0, 0, false)
	}
}

// P10.1: what stands beside digits makes no number, wherever it stands.
func TestNumSigns(t *testing.T) {
	for _, s := range []string{"+", "-", " ", "\t", "\n", "\r", "\x00", "_", ",", ".", "'", "/", ":", "e", "E", "x", "a", "f", "o", "\x7f", "\x80", "\xb2", "\xff", "\u0661", "\uff11", "\u00b2", "--", "+-"} {
		for _, digits := range []string{"", "0", "1", "12", "00", "123456789", "999999999"} {
			num(t, s+digits, math.MinInt, math.MaxInt, 0, false)
			num(t, digits+s, math.MinInt, math.MaxInt, 0, false)
			for i := range len(digits) {
				num(t, digits[:i]+s+digits[i:], math.MinInt, math.MaxInt, 0, false)
			}
		}
	}
	for _, s := range []string{"0x1", "0X1f", "0b1", "0o7", "1e3", "1.0", "1.", ".1", "1_0", "1,000", "1 0", "-0", "+0", "nan", "inf", "ten"} {
		num(t, s, math.MinInt, math.MaxInt, 0, false)
	}
	for c := range 256 {
		s := string([]byte{byte(c)})
		for _, around := range []string{s, "1" + s, s + "1", "1" + s + "1", "0" + s, s + "0", "12345678" + s + "9", "123456789" + s, s + "123456789"} {
			asSaid(t, around)
		}
	}
}

// P10.1: of all short texts those are numbers that the chapter says.
func TestNumTexts(t *testing.T) {
	each("0129+-. /:\xff", 5, func(s string) { asSaid(t, s) })
	each("09a", 11, func(s string) {
		if len(s) < 8 {
			return
		}
		n, ok := saidNum(t, s, 0, math.MaxInt)
		num(t, s, 0, math.MaxInt, n, ok)
	})
}

// P10.1: least and most themselves are allowed, and what is beyond them is none.
func TestNumRange(t *testing.T) {
	for _, n := range []int{0, 1, 9, 10, 255, 256, 1000, 16777215, math.MaxInt32, math.MaxInt32 + 1, greatestIP, greatestNum - 1, greatestNum} {
		s := strconv.Itoa(n)
		num(t, s, n, n, n, true)
		num(t, s, n-1, n+1, n, true)
		num(t, s, n, math.MaxInt, n, true)
		num(t, s, math.MinInt, n, n, true)
		num(t, s, n+1, math.MaxInt, 0, false)
		num(t, s, math.MinInt, n-1, 0, false)
		num(t, s, n+1, n+1, 0, false)
		num(t, s, n-1, n-1, 0, false)
		num(t, s, n+1, n-1, 0, false)
		num(t, s, n+1, n, 0, false)
		num(t, s, n, n-1, 0, false)
		num(t, s, math.MaxInt, math.MinInt, 0, false)
		num(t, s, math.MinInt, math.MinInt, 0, false)
		num(t, s, math.MaxInt, math.MaxInt, 0, false)
		num(t, s, -5, -1, 0, false)
		num(t, s, math.MinInt, -1, 0, false)
		num(t, s, -1, -5, 0, false)
	}
	for _, s := range []string{"-1", "-5", "-9223372036854775808", "9223372036854775807"} {
		num(t, s, -5, -1, 0, false)
		num(t, s, math.MinInt, math.MaxInt, 0, false)
	}
	for _, least := range sizes() {
		for _, most := range sizes() {
			for _, s := range []string{"0", "1", "2", "8", "255", "4294967296", "9999999999", "", "00", "-1", "x", "10000000000"} {
				n, ok := saidNum(t, s, least, most)
				num(t, s, least, most, n, ok)
			}
		}
	}
}

// withPart is 1.2.3.4 with another text in one of its four places.
func withPart(i int, s string) string {
	parts := []string{"1", "2", "3", "4"}
	parts[i] = s
	return strings.Join(parts, ".")
}

// P10.1: each of an address's four numbers, in its own place.
func TestIPParts(t *testing.T) {
	for i := range 4 {
		shift := 24 - 8*i
		rest := (1<<24 + 2<<16 + 3<<8 + 4) &^ (255 << shift)
		for n := range 256 {
			ip(t, withPart(i, strconv.Itoa(n)), rest+n<<shift, true)
			for _, s := range []string{"0", "00", "+", "-", " ", "0x"} {
				ip(t, withPart(i, s+strconv.Itoa(n)), 0, false)
			}
			ip(t, withPart(i, strconv.Itoa(n)+" "), 0, false)
		}
		for _, s := range []string{"", "256", "257", "260", "300", "999", "1000", "00", "01", "000", "001", "0255", "00255", "4294967296", "9999999999", "10000000000", "18446744073709551617",
			"-1", "+1", "-0", " 1", "1 ", "a", "f", "1a", "0x1", "1_0", "*", "\x00", "\xff", "\uff11", "1/8", "1:1", "1,1"} {
			ip(t, withPart(i, s), 0, false)
		}
		ip(t, withPart(i, "0"), rest, true)
		ip(t, withPart(i, "255"), rest+255<<shift, true)
	}
	ip(t, "0.0.0.0", 0, true)
	ip(t, "255.255.255.255", greatestIP, true)
}

// P10.1: as many numbers as four, and a . between two, and nowhere else.
func TestIPDots(t *testing.T) {
	for n := range 12 {
		for _, part := range []string{"", "0", "1", "255"} {
			s := strings.Join(slices.Repeat([]string{part}, n), ".")
			if n == 4 && part != "" {
				ip(t, s, value(t, part, 10)*0x01010101, true)
			} else {
				ip(t, s, 0, false)
			}
		}
	}
	const good = "1.2.3.4"
	for i := 0; i <= len(good); i++ {
		for c := range 256 {
			asSaid(t, good[:i]+string([]byte{byte(c)})+good[i:])
			if i < len(good) {
				asSaid(t, good[:i]+string([]byte{byte(c)})+good[i+1:])
			}
		}
		for _, s := range []string{".", "..", "...", "...."} {
			ip(t, good[:i]+s+good[i:], 0, false)
		}
		asSaid(t, good[:i])
		asSaid(t, good[i:])
	}
	for _, s := range []string{"1.2.3", "1.2", "1", "1.2.3.4.5", "1.2.3.4.", ".1.2.3.4", "1..2.3", "1..2.3.4", "1.2..3.4", "1.2.3..4", "1.2.3.", ".2.3.4", "...", "....", ".", "16909060", "0x01020304",
		"1,2,3,4", "1:2:3:4", "1.2.3:4", "::1.2.3.4", "1.2.3.4%x", "1.2.3.4/32", "[1.2.3.4]", "\n1.2.3.4", "1.2.3.4\n", "localhost", strings.Repeat("1.", 100000), strings.Repeat(".", 100000)} {
		ip(t, s, 0, false)
	}
}

// P10.1: of all short texts, and of many longer ones, those are addresses that the chapter says.
func TestIPTexts(t *testing.T) {
	each("0125.", 8, func(s string) {
		n, ok := saidIP(t, s)
		ip(t, s, n, ok)
	})
	parts := []string{"", "0", "00", "1", "01", "9", "10", "99", "100", "199", "200", "249", "250", "255", "256", "260", "-1", "1 "}
	for _, a := range parts {
		for _, b := range parts {
			for _, c := range parts {
				for _, d := range parts {
					s := a + "." + b + "." + c + "." + d
					n, ok := saidIP(t, s)
					ip(t, s, n, ok)
				}
			}
		}
	}
}

// P10.1: each length of a prefix, and what is no length.
func TestPrefixLengths(t *testing.T) {
	for length := 0; length <= 32; length++ {
		text := strconv.Itoa(length)
		ones := greatestIP - (power(32-length) - 1)
		s, _ := saidIPText(ones)
		prefix(t, s+"/"+text, ones, length, true)
		prefix(t, "0.0.0.0/"+text, 0, length, true)
		for _, sign := range []string{"0", "00", "+", "-", " ", "/"} {
			prefix(t, "0.0.0.0/"+sign+text, 0, 0, false)
		}
		for _, sign := range []string{" ", "/", ".", "\n", "a", "/0"} {
			prefix(t, "0.0.0.0/"+text+sign, 0, 0, false)
		}
	}
	for _, length := range []string{"", "33", "34", "40", "64", "99", "100", "032", "00", "08", "-1", "-0", "+8", " 8", "8 ", "a", "8a", "0x8", "1_0", "*", "\xff", "255.0.0.0", "4294967296", "4294967304", "18446744073709551616", "10000000000", strings.Repeat("1", 100000)} {
		prefix(t, "0.0.0.0/"+length, 0, 0, false)
		prefix(t, "255.255.255.255/"+length, 0, 0, false)
	}
}

// P10.1: one /, between an address and a length.
func TestPrefixForm(t *testing.T) {
	for _, s := range []string{"", "/", "//", "8", "/8", "8/", "10.0.0.0", "10.0.0.0/", "10.0.0.0//8", "10.0.0.0/8/", "10.0.0.0/8/8", "/10.0.0.0/8", "//10.0.0.0/8", "10.0.0.0:8", "10.0.0.0 8", "10.0.0.0\\8", "10.0.0.0/ 8", "10.0.0.0 /8", " 10.0.0.0/8", "10.0.0.0/8\n",
		"10/8", "10.0/8", "10.0.0/8", "10.0.0.0.0/8", "10.0.0.256/8", "256.0.0.0/8", "010.0.0.0/8", "10.0.0.00/8", "10.0.0./8", ".10.0.0.0/8", "10..0.0/8", "-1.0.0.0/8", "8/10.0.0.0", "10.0.0.0/10.0.0.0", "::/0", "0/0", "x/8", "10.0.0.0/x", strings.Repeat("/", 100000), strings.Repeat("0.0.0.0/0", 10000)} {
		prefix(t, s, 0, 0, false)
	}
	const good = "10.20.0.0/16"
	for i := 0; i <= len(good); i++ {
		for c := range 256 {
			asSaid(t, good[:i]+string([]byte{byte(c)})+good[i:])
			if i < len(good) {
				asSaid(t, good[:i]+string([]byte{byte(c)})+good[i+1:])
			}
		}
		asSaid(t, good[:i])
		asSaid(t, good[i:])
	}
	each("0/.1", 9, func(s string) {
		n, length, ok := saidPrefix(t, s)
		prefix(t, s, n, length, ok)
	})
}

// P10.1: no bit behind the first ones may be set, neither right behind them, nor any other one; all of the first ones may.
func TestPrefixBits(t *testing.T) {
	for length := 0; length <= 32; length++ {
		for bit := range 32 {
			n := 1 << (31 - bit)
			s, _ := saidIPText(n)
			text := s + "/" + strconv.Itoa(length)
			if bit < length {
				prefix(t, text, n, length, true)
				prefixText(t, n, length, text, true)
			} else {
				prefix(t, text, 0, 0, false)
				prefixText(t, n, length, "", false)
			}
			for _, ip := range []int{0, 1, n, n - 1, n + 1, greatestIP} {
				in(t, n, length, ip, saidIn(n, length, ip))
			}
		}
		for _, n := range append(many(50, 32), 0, greatestIP) {
			kept := n - n%power(32-length)
			for _, n := range []int{n, kept, kept + power(32-length)/2, kept + 1} {
				text, ok := saidPrefixText(n, length)
				prefixText(t, n, length, text, ok)
				address, _ := saidIPText(n)
				text = address + "/" + strconv.Itoa(length)
				want, l, ok := saidPrefix(t, text)
				prefix(t, text, want, l, ok)
			}
		}
	}
}

// P10.1: each digit of base 16 in each place, and each other byte in none.
func TestMACDigits(t *testing.T) {
	const zero = "00:00:00:00:00:00"
	for i := range len(zero) {
		for c := range 256 {
			s := zero[:i] + string([]byte{byte(c)}) + zero[i+1:]
			n, ok := saidMAC(t, s)
			mac(t, s, n, ok)
			asSaid(t, zero[:i]+string([]byte{byte(c)})+zero[i:])
		}
		mac(t, zero[:i]+zero[i+1:], 0, false)
		asSaid(t, zero[:i])
		asSaid(t, zero[i:])
	}
	for place := range 12 {
		for digit, c := range "0123456789abcdef" {
			at := place + place/2
			mac(t, zero[:at]+string(c)+zero[at+1:], digit<<(44-4*place), true)
		}
		for _, c := range "ABCDEFGgxz /:.-_" {
			at := place + place/2
			mac(t, zero[:at]+string(c)+zero[at+1:], 0, false)
		}
	}
	for a := range 256 {
		for b := range 256 {
			s := "01:23:" + string([]byte{byte(a), byte(b)}) + ":67:89:ab"
			n, ok := saidMAC(t, s)
			mac(t, s, n, ok)
		}
	}
	mac(t, zero, 0, true)
	mac(t, "ff:ff:ff:ff:ff:ff", greatestMAC, true)
	mac(t, "FF:FF:FF:FF:FF:FF", 0, false)
	mac(t, "ab:cd:ef:ab:cd:eF", 0, false)
}

// P10.1: six times two digits, no more and no fewer, and a : between two.
func TestMACForm(t *testing.T) {
	for n := range 12 {
		for _, part := range []string{"", "1", "11", "011", "111", "0x11"} {
			for _, between := range []string{":", "", "-", ".", "::", " ", ": "} {
				s := strings.Join(slices.Repeat([]string{part}, n), between)
				if n == 6 && part == "11" && between == ":" {
					mac(t, s, 0x111111111111, true)
				} else {
					mac(t, s, 0, false)
				}
			}
		}
	}
	for place := range 6 {
		for _, part := range []string{"", "1", "123", "1234", "1:", ":1", "1 ", " 1", "+1", "-1", "0x", "1G", "1A", "A1"} {
			parts := []string{"01", "23", "45", "67", "89", "ab"}
			parts[place] = part
			mac(t, strings.Join(parts, ":"), 0, false)
		}
	}
	for _, s := range []string{"", ":", ":::::", "::::::", "000000000000", "0000.0000.0000", "00-00-00-00-00-00", "00:00:00:00:00", "00:00:00:00:00:", ":00:00:00:00:00", "00:00:00:00:00:00:", ":00:00:00:00:00:00", "00:00:00:00:00:00:00", "00:00:00:00:00:00:00:00",
		" 00:00:00:00:00:00", "00:00:00:00:00:00 ", "00:00:00:00:00:00\n", "0:000:00:00:00:00", "000:0:00:00:00:00", "00:00:00::00:00:00", "00000:00:00:00:00", "0:0:0:0:0:00:00:00", strings.Repeat("0", 17), strings.Repeat(":", 17), strings.Repeat("00:", 100000)} {
		mac(t, s, 0, false)
	}
}

// P10.1: 0, the greatest number, one more, one less than 0, the least and the greatest int, and many others.
func TestTexts(t *testing.T) {
	ipText(t, 0, "0.0.0.0", true)
	ipText(t, greatestIP, "255.255.255.255", true)
	macText(t, 0, "00:00:00:00:00:00", true)
	macText(t, greatestMAC, "ff:ff:ff:ff:ff:ff", true)
	for _, n := range beyond() {
		ipText(t, n, "", false)
		for length := 0; length <= 32; length++ {
			prefixText(t, n, length, "", false)
		}
	}
	for _, n := range []int{-1, -2, -256, math.MinInt, math.MinInt + 1, 1 << 48, 1<<48 + 1, 1<<48 + 255, 1 << 49, 1 << 62, math.MaxInt - 1, math.MaxInt} {
		macText(t, n, "", false)
	}
	for _, n := range slices.Concat(sizes(), many(5000, 32), many(5000, 33), many(5000, 48), many(5000, 49)) {
		s, ok := saidIPText(n)
		ipText(t, n, s, ok)
		s, ok = saidMACText(n)
		macText(t, n, s, ok)
	}
	for shift := 0; shift < 48; shift += 8 {
		for n := range 256 {
			s, ok := saidIPText(n << shift)
			ipText(t, n<<shift, s, ok)
			s, ok = saidMACText(n << shift)
			macText(t, n<<shift, s, ok)
		}
	}
}

// P10.1: each length, those beyond, a bit set behind the first ones, and numbers beyond.
func TestPrefixText(t *testing.T) {
	for _, n := range slices.Concat(sizes(), many(200, 32), many(50, 33)) {
		for length := -3; length <= 70; length++ {
			s, ok := saidPrefixText(n, length)
			prefixText(t, n, length, s, ok)
		}
		for _, length := range outside() {
			prefixText(t, n, length, "", false)
		}
	}
	for length := 0; length <= 32; length++ {
		prefixText(t, 0, length, "0.0.0.0/"+strconv.Itoa(length), true)
		s, ok := saidPrefixText(1, length)
		prefixText(t, 1, length, s, ok)
	}
	prefixText(t, 1, 32, "0.0.0.1/32", true)
	prefixText(t, 1, 31, "", false)
	prefixText(t, greatestIP, 32, "255.255.255.255/32", true)
	prefixText(t, greatestIP-1, 31, "255.255.255.254/31", true)
	prefixText(t, greatestIP, 31, "", false)
	prefixText(t, 1<<31, 1, "128.0.0.0/1", true)
	prefixText(t, 1<<31, 0, "", false)
}

// P10.1: the first and the last address of a prefix are in it, the ones right beside it are not.
func TestInEdges(t *testing.T) {
	for length := 0; length <= 32; length++ {
		for _, n := range slices.Concat(many(100, 32), []int{0, 1, 1 << 31, greatestIP}) {
			first := n - n%power(32-length)
			last := first + power(32-length) - 1
			in(t, first, length, first, true)
			in(t, first, length, last, true)
			in(t, first, length, n, true)
			in(t, first, length, first-1, false)
			in(t, first, length, last+1, false)
			if first != last {
				in(t, last, length, last, false)
				in(t, last, length, first, false)
				in(t, first+1, length, first+1, false)
				in(t, first+(last-first+1)/2, length, last, false)
			}
		}
		in(t, 0, length, 0, true)
		in(t, 0, length, greatestIP, length == 0)
		for bit := range 32 {
			in(t, 0, length, 1<<(31-bit), bit >= length)
			ones := greatestIP - (power(32-length) - 1)
			in(t, ones, length, greatestIP-1<<(31-bit), bit >= length)
		}
	}
}

// P10.1: n, bits and ip beyond their ranges, one at a time and together.
func TestInBeyond(t *testing.T) {
	for length := 0; length <= 32; length++ {
		for _, n := range beyond() {
			in(t, 0, length, n, false)
			in(t, n, length, 0, false)
			in(t, n, length, n, false)
			in(t, n, length, n&greatestIP, false)
			in(t, n&greatestIP, length, n, false)
			in(t, 1<<31, length, n, false)
			in(t, n, length, 1<<31, false)
		}
	}
	for _, length := range outside() {
		for _, n := range slices.Concat(beyond(), []int{0, 1, 1 << 31, greatestIP}) {
			for _, ip := range slices.Concat(beyond(), []int{0, 1, 1 << 31, greatestIP, n, n & greatestIP}) {
				in(t, n, length, ip, false)
			}
		}
	}
	for _, n := range beyond() {
		for _, ip := range beyond() {
			for length := -1; length <= 33; length++ {
				in(t, n, length, ip, false)
			}
		}
	}
}

// P10.1: over numbers of all sizes In answers what the chapter says.
func TestInMany(t *testing.T) {
	l := slices.Concat(sizes(), many(50, 32), many(20, 8), many(20, 16))
	for length := -2; length <= 34; length++ {
		for _, n := range l {
			for _, ip := range l {
				in(t, n, length, ip, saidIn(n, length, ip))
			}
			if length >= 0 && length <= 32 && n >= 0 {
				in(t, n-n%power(32-length), length, n, saidIn(n-n%power(32-length), length, n))
			}
		}
	}
}

// P10.2: what has a text is read of it as it was.
func TestWrittenIsRead(t *testing.T) {
	for _, n := range slices.Concat(sizes(), many(20000, 32), many(2000, 16), many(2000, 48), many(2000, 33)) {
		if s, ok := IPText(n); ok {
			ip(t, s, n, true)
		}
		if s, ok := MACText(n); ok {
			mac(t, s, n, true)
		}
		for length := -1; length <= 33; length++ {
			if s, ok := PrefixText(n, length); ok {
				prefix(t, s, n, length, true)
			}
		}
		if n >= 0 && n <= greatestNum {
			num(t, strconv.Itoa(n), n, n, n, true)
		} else {
			num(t, strconv.Itoa(n), n, n, 0, false)
		}
	}
	for length := 0; length <= 32; length++ {
		for _, n := range many(500, 32) {
			n -= n % power(32-length)
			s, ok := PrefixText(n, length)
			if !ok {
				t.Errorf("%d, %d has no text", n, length)
			}
			prefix(t, s, n, length, true)
		}
	}
}

// again fails, unless what is read of a text has that text.
func again(t *testing.T, s string) int {
	t.Helper()
	read := 0
	if n, ok := Num(s, 0, math.MaxInt); ok {
		read++
		if strconv.Itoa(n) != s {
			t.Errorf("%q is read as %d", s, n)
		}
	}
	if n, ok := IP(s); ok {
		read++
		ipText(t, n, s, true)
	}
	if n, length, ok := Prefix(s); ok {
		read++
		prefixText(t, n, length, s, true)
	}
	if n, ok := MAC(s); ok {
		read++
		macText(t, n, s, true)
	}
	return read
}

// P10.2: what is read of a text has that text, and none is read in two ways.
func TestReadIsWritten(t *testing.T) {
	try := func(s string) {
		if n := again(t, s); n > 1 {
			t.Errorf("%q is read in %d ways", s, n)
		}
	}
	each("0125.", 9, try)
	each("012/.", 8, try)
	for _, a := range []string{"0", "00", "1", "010", "255", "256", "A", ""} {
		for _, b := range []string{"0", "0.0", "00.1", "2.255", "128.0"} {
			for length := range 40 {
				try(a + "." + b + ".0/" + strconv.Itoa(length))
				try(a + "." + b + ".0/0" + strconv.Itoa(length))
			}
		}
	}
	each("0aF:", 5, func(s string) {
		try(s + ":00:9f:11:ab")
		try("00:9f:11:ab:" + s)
	})
}

// P10.2: an address is in a prefix, if it is in a longer one that is in it; and of two prefixes that an address is in the longer one is in the other one.
func TestLonger(t *testing.T) {
	for _, n := range slices.Concat(many(60, 32), many(10, 16), []int{0, 1, 1 << 31, greatestIP}) {
		for long := 0; long <= 32; long++ {
			inner := n - n%power(32-long)
			for short := 0; short <= long; short++ {
				outer := n - n%power(32-short)
				in(t, outer, short, inner, true)
				for _, ip := range []int{inner, n, inner + power(32-long) - 1} {
					if !In(inner, long, ip) || !In(outer, short, ip) {
						t.Errorf("%d is not in %d, %d, or not in %d, %d", ip, inner, long, outer, short)
					}
				}
				beside := (outer + power(32-short)) % (greatestIP + 1)
				if short > 0 && (In(beside, short, inner) || In(beside, short, n)) {
					t.Errorf("%d, or %d, is in %d, %d", inner, n, beside, short)
				}
			}
		}
	}
	l := slices.Concat(many(40, 4), many(40, 8))
	for _, outer := range l {
		for _, inner := range l {
			for _, ip := range l {
				for short := 24; short <= 32; short++ {
					for long := short; long <= 32; long++ {
						if In(outer, short, inner) && In(inner, long, ip) && !In(outer, short, ip) {
							t.Errorf("%d is in %d, %d, but not in %d, %d", ip, inner, long, outer, short)
						}
					}
				}
			}
		}
	}
}

// R4: what is answered hangs on what is given alone, also where many ask at one time.
func TestAtOneTime(t *testing.T) {
	var all sync.WaitGroup
	for range 4 {
		all.Go(func() {
			for _, n := range many(2000, 32) {
				s, _ := saidIPText(n)
				ip(t, s, n, true)
				ipText(t, n, s, true)
				prefix(t, s+"/32", n, 32, true)
				s, _ = saidMACText(n)
				mac(t, s, n, true)
				macText(t, n, s, true)
				ip(t, s, 0, false)
				in(t, n, 32, n, true)
			}
		})
	}
	all.Wait()
}

package metric

import (
	"math"
	"math/big"
	"regexp"
	"slices"
	"strconv"
	"strings"
	"sync"
	"testing"
)

const (
	leastSubnormal    = math.SmallestNonzeroFloat64
	greatestThousands = 999999999 // thousandths of the greatest number that has a text
	exactly           = 2200      // bits in which the sum of any two numbers is exact
)

// The chapter's words, said once more.
var words = regexp.MustCompile(`\A-?(0|[1-9][0-9]{0,5})(\.[0-9]{0,2}[1-9])?\z`)

// minus is a number with the sign.
func minus(f float64) float64 { return math.Copysign(f, -1) }

// same: are they one metric? What is no number is all the same, whatever its bits are.
func same(a, b float64) bool {
	return math.IsNaN(a) && math.IsNaN(b) || math.Float64bits(a) == math.Float64bits(b)
}

// tell is a metric for a person: FormatFloat tells the sign of 0, and the bits what no text tells.
func tell(f float64) string {
	return strconv.FormatFloat(f, 'g', -1, 64) + " (" + strconv.FormatUint(math.Float64bits(f), 16) + ")"
}

// all are metrics for a person, the first few of them.
func all(l []float64) string {
	var parts []string
	for i, f := range l {
		if i == 12 {
			parts = append(parts, "...")
			break
		}
		parts = append(parts, tell(f))
	}
	return "[" + strings.Join(parts, ", ") + "]"
}

// kind is the place of a metric's sort among the sorts that the order tells.
func kind(f float64) int {
	switch {
	case math.IsNaN(f):
		return 6
	case math.IsInf(f, -1):
		return 0
	case math.IsInf(f, 1):
		return 5
	case f < 0:
		return 1
	case f > 0:
		return 4
	case math.Signbit(f):
		return 2
	}
	return 3
}

// saidLess is what Less is to answer.
func saidLess(a, b float64) bool {
	if kind(a) != kind(b) {
		return kind(a) < kind(b)
	}
	return (kind(a) == 1 || kind(a) == 4) && a < b
}

// saidBits is the whole number that the bits of a number, or of the infinite one, without the sign are: of its exponent and its fraction.
func saidBits(f float64) int {
	switch {
	case f == 0:
		return 0
	case math.IsInf(f, 1):
		return 2047 << 52
	case f < 0x1p-1022:
		return int(math.Ldexp(f, 1074))
	}
	fraction, exponent := math.Frexp(f)
	return (exponent+1022)<<52 + int(math.Ldexp(2*fraction-1, 52))
}

// saidRank is what Rank is to answer.
func saidRank(f float64) int {
	switch {
	case math.IsNaN(f):
		return 1<<63 - 1
	case math.Signbit(f):
		return -1 - saidBits(-f)
	}
	return saidBits(f)
}

// saidLeast is what Least is to answer.
func saidLeast(l []float64) int {
	return slices.IndexFunc(l, func(f float64) bool {
		return !slices.ContainsFunc(l, func(g float64) bool { return saidLess(g, f) })
	})
}

// saidRead is what Read is to answer.
func saidRead(s string) (float64, bool) {
	switch s {
	case "nan":
		return math.NaN(), true
	case "inf":
		return math.Inf(1), true
	case "-inf":
		return math.Inf(-1), true
	}
	if !words.MatchString(s) {
		return 0, false
	}
	f, e := strconv.ParseFloat(s, 64)
	return f, e == nil
}

// saidText is what Text is to answer. Of at most 9 digits no two texts are of one number, so that a number's shortest text is the chapter's, if it has that one.
func saidText(f float64) (string, bool) {
	switch {
	case math.IsNaN(f):
		return "nan", true
	case math.IsInf(f, 1):
		return "inf", true
	case math.IsInf(f, -1):
		return "-inf", true
	}
	s := strconv.FormatFloat(f, 'f', -1, 64)
	if !words.MatchString(s) {
		return "", false
	}
	return s, true
}

// plus is the sum of two metrics: the exact one, that is then made a float64.
func plus(a, b float64) float64 {
	switch {
	case math.IsNaN(a) || math.IsNaN(b):
		return math.NaN()
	case math.IsInf(a, 0) && math.IsInf(b, 0) && a != b:
		return math.NaN()
	case math.IsInf(a, 0):
		return a
	case math.IsInf(b, 0):
		return b
	}
	x := new(big.Float).SetPrec(exactly).SetFloat64(a)
	y := new(big.Float).SetPrec(exactly).SetFloat64(b)
	sum, _ := x.Add(x, y).Float64()
	return sum
}

// saidSum is what Sum is to answer.
func saidSum(l []float64) float64 {
	sum := float64(0)
	for _, f := range l {
		sum = plus(sum, f)
	}
	return sum
}

// rank fails, unless Rank answers that.
func rank(t *testing.T, f float64, want int) {
	t.Helper()
	if n := Rank(f); n != want {
		t.Errorf("rank of %s: %d; it should be %d", tell(f), n, want)
	}
}

// less fails, unless Less answers that.
func less(t *testing.T, a, b float64, want bool) {
	t.Helper()
	if is := Less(a, b); is != want {
		t.Errorf("%s ahead of %s: %v", tell(a), tell(b), is)
	}
}

// bits are those of each of l.
func bits(l []float64) []uint64 {
	var all []uint64
	for _, f := range l {
		all = append(all, math.Float64bits(f))
	}
	return all
}

// least fails, unless Least answers that, and leaves l as it was.
func least(t *testing.T, l []float64, want int) {
	t.Helper()
	was := bits(l)
	if i := Least(l); i != want {
		t.Errorf("least of %s: %d; it should be %d", all(l), i, want)
	}
	if !slices.Equal(bits(l), was) {
		t.Errorf("what Least was handed has become %s", all(l))
	}
}

// sum fails, unless Sum answers that, and leaves l as it was.
func sum(t *testing.T, l []float64, want float64) {
	t.Helper()
	was := bits(l)
	if f := Sum(l); !same(f, want) {
		t.Errorf("sum of %s: %s; it should be %s", all(l), tell(f), tell(want))
	}
	if !slices.Equal(bits(l), was) {
		t.Errorf("what Sum was handed has become %s", all(l))
	}
}

// read fails, unless Read answers that.
func read(t *testing.T, s string, want float64, ok bool) {
	t.Helper()
	if f, is := Read(s); !same(f, want) || is != ok {
		t.Errorf("%.40q: %s, %v; it should be %s, %v", s, tell(f), is, tell(want), ok)
	}
}

// none fails, unless s is no text of a metric.
func none(t *testing.T, s string) {
	t.Helper()
	read(t, s, 0, false)
}

// text fails, unless Text answers that.
func text(t *testing.T, f float64, want string, ok bool) {
	t.Helper()
	if s, is := Text(f); s != want || is != ok {
		t.Errorf("text of %s: %q, %v; it should be %q, %v", tell(f), s, is, want, ok)
	}
}

// asSaid holds Read against the chapter's words.
func asSaid(t *testing.T, s string) {
	t.Helper()
	f, ok := saidRead(s)
	read(t, s, f, ok)
}

// each calls f with every text of at most n bytes of the alphabet.
func each(alphabet string, n int, f func(s string)) {
	var grow func(s string)
	grow = func(s string) {
		f(s)
		if len(s) == n {
			return
		}
		for i := 0; i < len(alphabet); i++ {
			grow(s + alphabet[i:i+1])
		}
	}
	grow("")
}

// lists calls f with every list of at most n of the metrics.
func lists(metrics []float64, n int, f func(l []float64)) {
	var grow func(l []float64)
	grow = func(l []float64) {
		f(l)
		if len(l) == n {
			return
		}
		for _, m := range metrics {
			grow(append(slices.Clone(l), m))
		}
	}
	grow(nil)
}

// noNumbers are what is no number, of several patterns of bits, with the sign and without it.
func noNumbers() []float64 {
	var l []float64
	for _, pattern := range []uint64{0x7ff0000000000001, 0x7ff4000000000000, 0x7ff7ffffffffffff, 0x7ff8000000000000, 0x7ff8000000000001, 0x7ffc000000000000, 0x7fffffffffffffff} {
		l = append(l, math.Float64frombits(pattern), math.Float64frombits(pattern|1<<63))
	}
	return append(l, math.NaN())
}

// rising are the edges of what is a number or infinite, each of them ahead of the next one.
func rising() []float64 {
	up := []float64{0, leastSubnormal, 2 * leastSubnormal, math.Float64frombits(0x000ffffffffffffe), math.Float64frombits(0x000fffffffffffff), 0x1p-1022, math.Float64frombits(0x0010000000000001),
		0x1p-1021, 1e-300, 0x1p-53, 0.0005, 0.001, 0.5, math.Nextafter(1, 0), 1, math.Nextafter(1, 2), 1.5, 2, 999999.999, 1000000, 0x1p53, 0x1p63, 0x1p1023, math.Nextafter(math.MaxFloat64, 0), math.MaxFloat64, math.Inf(1)}
	var l []float64
	for _, f := range slices.Backward(up) {
		l = append(l, minus(f))
	}
	return append(l, up...)
}

// many are n whole numbers of 64 bits, the same ones in each run. The low bits of x are left out, as they come round too soon.
func many(n int) []uint64 {
	var l []uint64
	x := uint64(1)
	next := func() uint64 {
		x = x*6364136223846793005 + 1442695040888963407
		return x >> 32
	}
	for range n {
		high := next()
		l = append(l, high<<32|next())
	}
	return l
}

// sizes are n metrics of all sizes, of both signs, every third one of whole thousandths, so that some have texts.
func sizes(n int) []float64 {
	var l []float64
	for i, x := range many(n) {
		switch i % 3 {
		case 0:
			l = append(l, math.Float64frombits(x))
		case 1:
			l = append(l, math.Ldexp(float64(int64(x)), int(x%120)-120))
		default:
			f := float64(x>>1%(greatestThousands+1)) / 1000
			l = append(l, math.Copysign(f, float64(int64(x))))
		}
	}
	return l
}

// everything are all edges, and n metrics of all sizes.
func everything(n int) []float64 { return slices.Concat(rising(), noNumbers(), sizes(n)) }

// P11.1, P11.2: the chapter's examples.
func TestExamples(t *testing.T) {
	less(t, minus(0), 0, true)
	less(t, 0, minus(0), false)
	text(t, 1.5, "1.5", true)
	read(t, "1.5", 1.5, true)
}

// P11.1: the ranks of the edges, as whole numbers.
func TestRankEdges(t *testing.T) {
	for _, c := range []struct {
		f    float64
		want int
	}{
		{0, 0}, {leastSubnormal, 1}, {2 * leastSubnormal, 2},
		{0x1p-1022, 1 << 52}, {1, 0x3ff0000000000000}, {math.Nextafter(1, 2), 0x3ff0000000000001}, {math.Nextafter(1, 0), 0x3fefffffffffffff},
		{1.5, 0x3ff8000000000000}, {2, 0x4000000000000000}, {math.MaxFloat64, 0x7fefffffffffffff}, {math.Inf(1), 0x7ff0000000000000},
	} {
		rank(t, c.f, c.want)
		rank(t, minus(c.f), -1-c.want)
	}
	rank(t, math.Float64frombits(0x000fffffffffffff), 1<<52-1)
	for _, f := range noNumbers() {
		rank(t, f, 9223372036854775807)
	}
	for _, f := range everything(60000) {
		rank(t, f, saidRank(f))
	}
}

// P11.1, P11.4: each edge against each other one, in both orders, and against itself; and their ranks.
func TestLessEdges(t *testing.T) {
	l := rising()
	for i, a := range l {
		for k, b := range l {
			less(t, a, b, i < k)
			if (Rank(a) < Rank(b)) != (i < k) {
				t.Errorf("ranks of %s and %s: %d and %d", tell(a), tell(b), Rank(a), Rank(b))
			}
		}
		for _, f := range noNumbers() {
			less(t, a, f, true)
			less(t, f, a, false)
			if Rank(a) >= Rank(f) {
				t.Errorf("ranks of %s and %s: %d and %d", tell(a), tell(f), Rank(a), Rank(f))
			}
		}
	}
	for _, f := range noNumbers() {
		for _, g := range noNumbers() {
			less(t, f, g, false)
			if Rank(f) != Rank(g) {
				t.Errorf("ranks of %s and %s: %d and %d", tell(f), tell(g), Rank(f), Rank(g))
			}
		}
	}
}

// P11.1, P11.4: over metrics of all sizes Less is the order, and ranks go with it.
func TestLessMany(t *testing.T) {
	l := everything(600)
	for _, a := range l {
		for _, b := range l {
			less(t, a, b, saidLess(a, b))
			less(t, b, a, saidLess(b, a))
			if (Rank(a) < Rank(b)) != saidLess(a, b) {
				t.Errorf("ranks of %s and %s: %d and %d", tell(a), tell(b), Rank(a), Rank(b))
			}
		}
	}
	for _, f := range sizes(30000) {
		if math.IsNaN(f) || math.IsInf(f, 0) {
			continue
		}
		up := math.Nextafter(f, math.Inf(1))
		less(t, f, up, true)
		less(t, up, f, false)
		rank(t, up, Rank(f)+1)
	}
}

// P11.1, P11.4: of any three metrics the order goes through, and of two that differ one stands ahead.
func TestOrderGoesThrough(t *testing.T) {
	l := everything(60)
	for _, a := range l {
		for _, b := range l {
			if Less(a, b) && Less(b, a) || Less(a, b) == Less(b, a) && !same(a, b) {
				t.Errorf("%s and %s: %v and %v", tell(a), tell(b), Less(a, b), Less(b, a))
			}
			for _, c := range l {
				if Less(a, b) && Less(b, c) && !Less(a, c) {
					t.Errorf("%s, %s, %s: the order does not go through", tell(a), tell(b), tell(c))
				}
				if !Less(a, b) && !Less(b, c) && Less(a, c) {
					t.Errorf("%s, %s, %s: the order does not go through from behind", tell(a), tell(b), tell(c))
				}
			}
		}
	}
}

// P11.1: none, one, all the same, all no number, and the least one at each place.
func TestLeastEdges(t *testing.T) {
	least(t, nil, -1)
	least(t, []float64{}, -1)
	least(t, rising()[:0], -1)
	for _, f := range everything(50) {
		for n := 1; n < 6; n++ {
			least(t, slices.Repeat([]float64{f}, n), 0)
		}
	}
	least(t, noNumbers(), 0)
	least(t, append(noNumbers(), math.Inf(1)), len(noNumbers()))
	least(t, append(noNumbers(), math.Inf(1), math.Inf(1), 7, 8, 7), len(noNumbers())+2)
	least(t, rising(), 0)
	down := rising()
	slices.Reverse(down)
	least(t, down, len(down)-1)
	least(t, []float64{0, minus(0)}, 1)
	least(t, []float64{minus(0), 0}, 0)
	least(t, []float64{0, minus(0), minus(0)}, 1)
	least(t, []float64{0, 0, leastSubnormal}, 0)
	least(t, []float64{minus(0), minus(leastSubnormal)}, 1)
	for place := range 9 {
		for behind := place; behind < 9; behind++ {
			l := slices.Repeat([]float64{2, math.NaN(), math.Inf(1)}, 3)
			l[place], l[behind] = -1.5, -1.5
			least(t, l, place)
		}
	}
}

// P11.1: over all short lists of the edges, and over long ones of all sizes.
func TestLeastMany(t *testing.T) {
	edges := []float64{math.Inf(-1), -1, minus(0), 0, leastSubnormal, 1, math.Inf(1), math.NaN(), math.Float64frombits(1<<64 - 1)}
	lists(edges, 5, func(l []float64) { least(t, l, saidLeast(l)) })
	l := everything(900)
	for i := range l {
		least(t, l[i:], saidLeast(l[i:]))
		least(t, l[:i], saidLeast(l[:i]))
	}
}

// P11.2: the texts of what is no number, or infinite; and each of them with a byte more, less, or another one.
func TestReadNames(t *testing.T) {
	read(t, "nan", math.NaN(), true)
	read(t, "inf", math.Inf(1), true)
	read(t, "-inf", math.Inf(-1), true)
	for _, s := range []string{"-nan", "+nan", "+inf", "--inf", "- inf", "NaN", "NAN", "Nan", "naN", "Inf", "INF", "iNf", "-Inf", "-INF", "infinity", "-infinity", "Infinity", "nan.", "inf.", "nan.1", "-inf.5", "inf0", "0inf", "nan0", "nan(1)", "naninf", "infinf", "nannan"} {
		none(t, s)
	}
	for _, name := range []string{"nan", "inf", "-inf", "-nan", "+inf", "NaN"} {
		for i := range name {
			asSaid(t, name[:i])
			asSaid(t, name[:i]+name[i+1:])
			for c := range 256 {
				b := string([]byte{byte(c)})
				asSaid(t, name[:i]+b+name[i:])
				asSaid(t, name[:i]+b+name[i+1:])
				asSaid(t, name+b)
			}
		}
	}
}

// P11.2: no text, - alone, 0 with the sign and without it, and what has a 0 ahead.
func TestReadZero(t *testing.T) {
	read(t, "0", 0, true)
	read(t, "-0", minus(0), true)
	for _, s := range []string{"", "-", "--", "--0", "-00", "00", "01", "-01", "000", "010", "00.1", "01.5", "-00.5", "000000", "000001", "0.0", "-0.0", "0.00", "0.000", "-0.000", "0.", "-0.", ".0", "-.0", ".", "-.", "..", "+0", "0-", "+-0", "-+0"} {
		none(t, s)
	}
}

// P11.2: 1 to 6 digits ahead of the ., and more.
func TestReadDigits(t *testing.T) {
	for _, sign := range []string{"", "-"} {
		for n := 1; n <= 20; n++ {
			for digit := range 10 {
				s := strings.Repeat(strconv.Itoa(digit), n)
				if digit == 0 && n > 1 || n > 6 {
					none(t, sign+s)
					none(t, sign+s+".5")
					continue
				}
				whole, _ := strconv.Atoi(s)
				f := float64(whole)
				half := f + 0.5
				if sign != "" {
					f, half = minus(f), minus(half)
				}
				read(t, sign+s, f, true)
				read(t, sign+s+".5", half, true)
			}
		}
		for _, s := range []string{"1000000", "1000000.5", "1234567", "0123456", "10000000", "1000000000000000000", "18446744073709551616", "9223372036854775808", strings.Repeat("1", 100000), strings.Repeat("0", 100000), strings.Repeat("9", 400)} {
			none(t, sign+s)
		}
	}
	read(t, "999999", 999999, true)
	read(t, "100000", 100000, true)
	read(t, "-123456", -123456, true)
	read(t, "1002.003", 1002.003, true)
}

// P11.2: a . at the beginning, at the end, twice, not at all; 1 to 3 digits behind it, and more; a 0 at their end.
func TestReadParts(t *testing.T) {
	read(t, "0.001", 0.001, true)
	read(t, "-0.001", -0.001, true)
	read(t, "0.01", 0.01, true)
	read(t, "0.1", 0.1, true)
	read(t, "0.012", 0.012, true)
	read(t, "0.101", 0.101, true)
	read(t, "999999.999", 999999.999, true)
	read(t, "-999999.999", -999999.999, true)
	read(t, "12.34", 12.34, true)
	for _, s := range []string{".", "1.", "-1.", ".1", "-.1", ".001", "1..1", "1.1.", "1.1.1", ".1.1", "..1", "1..", "1.2.3", "1.-5", "1.+5", "1. 5", "1 .5", "1,5",
		"1.0", "1.10", "1.100", "1.00", "1.000", "1.120", "0.010", "0.100", "1.1234", "1.0001", "1.1230", "1.1000", "1.10000", "0.0001", "0.0005", "0.9999", "999999.9999", "999999.9995", "1." + strings.Repeat("0", 1000) + "1", "1." + strings.Repeat("1", 100000)} {
		none(t, s)
		none(t, "-"+s)
	}
	for part := range 10000 {
		s := "7." + strconv.Itoa(part)
		asSaid(t, s)
		asSaid(t, "-0"+s[1:])
		asSaid(t, "123456"+s[1:])
		asSaid(t, "1234567"+s[1:])
		asSaid(t, "7.0"+s[2:])
		asSaid(t, "7.00"+s[2:])
	}
}

// P11.2: what stands beside digits makes no number: a sign, a blank, a letter, a byte above 127, at the beginning, at the end and between.
func TestReadSigns(t *testing.T) {
	signs := []string{"+", "++", "--", "-+", "+-", " ", "\t", "\n", "\r", "\x00", "_", ",", "'", "/", ":", "e", "E", "e0", "e+1", "x", "X", "p", "a", "f", "i", "n", "0x", "\x7f", "\x80", "\xb2", "\xc3", "\xff", "\u0661", "\uff11", "\u00b2", "\u2212", "\u00a0", "\u00bd"}
	for _, sign := range signs {
		for _, s := range []string{"0", "1", "12", "123456", "0.5", "1.5", "12.345", "-0", "-1", "-1.5", "999999.999", "inf", "nan", "-inf"} {
			for i := range len(s) + 1 {
				none(t, s[:i]+sign+s[i:])
			}
		}
	}
	for _, s := range []string{"1e2", "1E2", "1e", "e1", "1e-2", "1.5e1", "0x1", "0x1p4", "0b1", "0o7", "1_0", "1_000", "1-", "1-1", "1.5-", "-1-", "- 1", "-\n1", "one", "1f", "1.5f", "1d", "%1", "1i", "(1)"} {
		none(t, s)
	}
	for c := range 256 {
		b := string([]byte{byte(c)})
		for _, s := range []string{"", "0", "1", "12345", "123456", "1.5", "12.34", "0.123", "-7", "-0.1"} {
			for i := range len(s) + 1 {
				asSaid(t, s[:i]+b+s[i:])
				if i < len(s) {
					asSaid(t, s[:i]+b+s[i+1:])
				}
			}
		}
	}
}

// P11.2: of all short texts those have a metric that the chapter says.
func TestReadTexts(t *testing.T) {
	each("019.-", 8, func(s string) { asSaid(t, s) })
	each("0159.-+ enaif\xff", 5, func(s string) { asSaid(t, s) })
	each("07", 4, func(s string) {
		for _, whole := range []string{"", "0", "-", "00", "10", "100000", "999999", "1000000", "-99999"} {
			asSaid(t, whole+"."+s)
			asSaid(t, whole+s)
		}
	})
}

// P11.2: the texts of the edges, and of what has none.
func TestTextEdges(t *testing.T) {
	for _, f := range noNumbers() {
		text(t, f, "nan", true)
	}
	text(t, math.Inf(1), "inf", true)
	text(t, math.Inf(-1), "-inf", true)
	text(t, 0, "0", true)
	text(t, minus(0), "-0", true)
	for _, s := range []string{"0.001", "0.002", "0.009", "0.01", "0.011", "0.099", "0.1", "0.101", "0.11", "0.999", "1", "1.001", "1.01", "1.1", "9.99", "10", "10.01", "100", "100.1", "1000", "100000", "123456.789", "999999", "999999.001", "999999.1", "999999.99", "999999.998", "999999.999"} {
		f, e := strconv.ParseFloat(s, 64)
		if e != nil {
			t.Fatal(e)
		}
		text(t, f, s, true)
		text(t, minus(f), "-"+s, true)
	}
	for _, f := range []float64{1000000, 1000000.5, 1000001, 1234567, 1e7, 0x1p53, 0x1p62, 0x1p63, 0x1p64, 1e100, 1e305, 1e306, 0x1p1023, math.MaxFloat64, math.Nextafter(math.MaxFloat64, 0), math.Nextafter(1000000, 0), 999999.9999, 999999.9995,
		0.0005, 0.0004, 0.0001, 0.0009, 0.00049999, 0.00050001, 0.0015, 1.0005, 1.2345, 1.0 / 3, math.Pi, 0x1p-53, 0x1p-1022, leastSubnormal, 2 * leastSubnormal, math.Float64frombits(0x000fffffffffffff), 1e-300} {
		text(t, f, "", false)
		text(t, minus(f), "", false)
	}
}

// someThousandths are whole numbers from 0 to greatestThousands: the first and the last ones, those round about powers, and many others.
func someThousandths() []int {
	var l []int
	for n := range 30000 {
		l = append(l, n, greatestThousands-n)
	}
	for p := 1; p <= greatestThousands; p *= 2 {
		l = append(l, p-1, p, min(p+1, greatestThousands))
	}
	for p := 1; p <= greatestThousands; p *= 10 {
		for n := range 10 {
			l = append(l, min(n*p, greatestThousands), min(n*p+1, greatestThousands), max(n*p-1, 0))
		}
	}
	for _, x := range many(60000) {
		l = append(l, int(x>>1%(greatestThousands+1)))
	}
	return l
}

// written is the chapter's text of thousandths, by its digits.
func written(n int) string {
	s := strconv.Itoa(n)
	for len(s) < 4 {
		s = "0" + s
	}
	whole, part := s[:len(s)-3], strings.TrimRight(s[len(s)-3:], "0")
	if part == "" {
		return whole
	}
	return whole + "." + part
}

// P11.2, P11.4: thousandths, with both signs, and the numbers right beside them, which have no text.
func TestThousandths(t *testing.T) {
	for _, n := range someThousandths() {
		s := written(n)
		f, _ := new(big.Rat).SetFrac64(int64(n), 1000).Float64()
		for _, m := range []float64{f, minus(f)} {
			text(t, m, s, true)
			read(t, s, m, true)
			text(t, math.Nextafter(m, math.Inf(1)), "", false)
			text(t, math.Nextafter(m, math.Inf(-1)), "", false)
			s = "-" + s
		}
	}
	text(t, float64(greatestThousands+1)/1000, "", false)
	text(t, minus(greatestThousands+1)/1000, "", false)
}

// P11.2: over metrics of all sizes Text answers what the chapter says.
func TestTextMany(t *testing.T) {
	for _, f := range everything(100000) {
		s, ok := saidText(f)
		text(t, f, s, ok)
	}
}

// P11.4: what has a text is read of it as it was, each bit of it.
func TestWrittenIsRead(t *testing.T) {
	texts := 0
	for _, f := range everything(100000) {
		s, ok := Text(f)
		if !ok {
			continue
		}
		texts++
		g, is := Read(s)
		if !is || !same(f, g) {
			t.Errorf("%s is written %q, and read as %s, %v", tell(f), s, tell(g), is)
		}
	}
	if texts < 30000 {
		t.Errorf("there were but %d texts", texts)
	}
}

// P11.4: what is read of a text has that text.
func TestReadIsWritten(t *testing.T) {
	texts := 0
	try := func(s string) {
		f, ok := Read(s)
		if !ok {
			return
		}
		texts++
		text(t, f, s, true)
	}
	each("0125.-", 7, try)
	each("0inaf.-", 6, try)
	for _, n := range someThousandths() {
		try(written(n))
		try("-" + written(n))
	}
	if texts < 200000 {
		t.Errorf("there were but %d texts", texts)
	}
}

// P11.3: none, one, and 0 with the sign.
func TestSumFew(t *testing.T) {
	sum(t, nil, 0)
	sum(t, []float64{}, 0)
	for _, f := range everything(2000) {
		want := f
		if f == 0 {
			want = 0
		}
		sum(t, []float64{f}, want)
		sum(t, []float64{f, minus(0)}, want)
		sum(t, []float64{minus(0), f}, want)
		if !math.IsNaN(f) && !math.IsInf(f, 0) {
			sum(t, []float64{f, -f}, 0)
			sum(t, []float64{-f, f}, 0)
		}
	}
	sum(t, []float64{minus(0)}, 0)
	sum(t, []float64{minus(0), minus(0)}, 0)
	sum(t, slices.Repeat([]float64{minus(0)}, 100), 0)
	sum(t, []float64{1.5, 2.25}, 3.75)
	sum(t, []float64{0.1, 0.2}, 0.30000000000000004)
	sum(t, []float64{0.1, 0.2, 0.3}, 0.6000000000000001)
	sum(t, []float64{0.3, 0.2, 0.1}, 0.6)
}

// P11.3, P11.4: both infinite ones in both orders, what is no number at each place, and both of these among others.
func TestSumEdges(t *testing.T) {
	up, down := math.Inf(1), math.Inf(-1)
	sum(t, []float64{up, up, 1, -math.MaxFloat64}, up)
	sum(t, []float64{-1, down, math.MaxFloat64, down}, down)
	for _, l := range [][]float64{{up, down}, {down, up}, {up, down, up}, {up, down, 1}, {1, down, 2, up, 3}, {up, 1, down, down}, {math.MaxFloat64, math.MaxFloat64, down}, {-math.MaxFloat64, -math.MaxFloat64, up, 5}} {
		sum(t, l, math.NaN())
	}
	for _, f := range noNumbers() {
		for n := 1; n < 6; n++ {
			for place := range n {
				for _, other := range []float64{0, 1, -2.5, math.MaxFloat64, up, down} {
					l := slices.Repeat([]float64{other}, n)
					l[place] = f
					sum(t, l, math.NaN())
				}
			}
		}
	}
}

// P11.3: numbers whose sum is no longer finite, or no longer normal.
func TestSumSizes(t *testing.T) {
	up, down, most := math.Inf(1), math.Inf(-1), math.MaxFloat64
	sum(t, []float64{most, most}, up)
	sum(t, []float64{-most, -most}, down)
	sum(t, []float64{most, most, -most, -most}, up)
	sum(t, []float64{most, -most, most, -most}, 0)
	sum(t, []float64{-most, -most, most, most}, down)
	sum(t, []float64{most, 1}, most)
	sum(t, []float64{most, 0x1p969}, most)
	sum(t, []float64{most, 0x1p970}, up)
	sum(t, []float64{most, math.Nextafter(0x1p970, 0)}, most)
	sum(t, []float64{0x1p1023, 0x1p1023}, up)
	sum(t, []float64{leastSubnormal, leastSubnormal}, 2*leastSubnormal)
	sum(t, []float64{0x1p-1022, minus(leastSubnormal)}, math.Float64frombits(0x000fffffffffffff))
	sum(t, []float64{math.Float64frombits(0x000fffffffffffff), leastSubnormal}, 0x1p-1022)
	sum(t, slices.Repeat([]float64{leastSubnormal}, 1000), math.Float64frombits(1000))
}

// P11.3: numbers of which each order has another sum, ties that go to the even one, and many small ones behind a great one.
func TestSumOrders(t *testing.T) {
	sum(t, []float64{1, 1e100, -1e100}, 0)
	sum(t, []float64{1e100, -1e100, 1}, 1)
	sum(t, []float64{1e100, 1, -1e100}, 0)
	sum(t, []float64{0x1p53, 1, 1}, 0x1p53)
	sum(t, []float64{1, 1, 0x1p53}, 0x1p53+2)
	sum(t, []float64{1, 0x1p53, 1}, 0x1p53)
	sum(t, []float64{0x1p53 + 2, 1}, 0x1p53+4)
	sum(t, []float64{0x1p53, 1.5}, 0x1p53+2)
	sum(t, []float64{-0x1p53, -1, -1}, -0x1p53)
	sum(t, []float64{1, 0x1p-53, 0x1p-53}, 1)
	sum(t, []float64{0x1p-53, 0x1p-53, 1}, math.Nextafter(1, 2))
	small := slices.Repeat([]float64{1}, 100000)
	sum(t, append([]float64{0x1p53}, small...), 0x1p53)
	sum(t, append(slices.Clone(small), 0x1p53), 0x1p53+100000)
	sum(t, append([]float64{1e300}, slices.Repeat([]float64{1e283}, 50000)...), 1e300)
	tenths := slices.Repeat([]float64{0.1}, 10)
	sum(t, tenths, 0.9999999999999999)
	orders := map[uint64]bool{}
	lists([]float64{0.1, 0.7, 1e16, -1e16}, 4, func(l []float64) {
		sorted := slices.Sorted(slices.Values(l))
		if slices.Equal(sorted, []float64{-1e16, 0.1, 0.7, 1e16}) {
			orders[math.Float64bits(Sum(l))] = true
		}
	})
	if len(orders) < 4 {
		t.Errorf("of 24 orders there are but %d sums", len(orders))
	}
}

// P11.3, P11.4: a sum is each metric added in order, over all short lists of the edges, and over many of all sizes.
func TestSumMany(t *testing.T) {
	edges := []float64{math.Inf(-1), -math.MaxFloat64, -1, minus(0), 0, leastSubnormal, 0.1, 1, 0x1p53, math.MaxFloat64, math.Inf(1), math.NaN()}
	lists(edges, 4, func(l []float64) { sum(t, l, saidSum(l)) })
	metrics := slices.DeleteFunc(sizes(40000), math.IsNaN)
	for n := 1; n <= 200; n++ {
		sum(t, metrics[n*190:n*190+n], saidSum(metrics[n*190:n*190+n]))
	}
	texts := slices.DeleteFunc(sizes(40000), func(f float64) bool {
		_, ok := saidText(f)
		return !ok
	})
	sum(t, texts, saidSum(texts))
	for n := range 3000 {
		sum(t, texts[n:n+n%40], saidSum(texts[n:n+n%40]))
	}
	near := []float64{}
	for _, x := range many(5000) {
		near = append(near, math.Ldexp(float64(int64(x)), int(x%8)))
		sum(t, near[max(0, len(near)-7):], saidSum(near[max(0, len(near)-7):]))
	}
}

// P11.4: with what is no number, or with both infinite ones, the sum is no number; without all three, and of numbers whose sum stays finite, it is one.
func TestSumNoNumber(t *testing.T) {
	lists([]float64{math.Inf(-1), -math.MaxFloat64, minus(0), 7, math.Inf(1), math.NaN()}, 5, func(l []float64) {
		both := slices.Contains(l, math.Inf(1)) && slices.Contains(l, math.Inf(-1))
		f := Sum(l)
		if (both || slices.ContainsFunc(l, math.IsNaN)) && !math.IsNaN(f) {
			t.Errorf("sum of %s: %s", all(l), tell(f))
		}
		if !slices.ContainsFunc(l, func(f float64) bool { return math.IsNaN(f) || math.IsInf(f, 0) }) && math.IsNaN(f) {
			t.Errorf("sum of %s: %s", all(l), tell(f))
		}
	})
}

// R4, R6: what is no number is all the same: of whatever bits it comes, what is answered has those that Read answers.
func TestNoNumberIsOne(t *testing.T) {
	want, _ := Read("nan")
	for _, f := range noNumbers() {
		for _, l := range [][]float64{{f}, {f, 1}, {1, f}, {f, math.Inf(1)}, {math.Inf(1), math.Inf(-1)}, {math.Inf(-1), math.Inf(1), f}} {
			if got := Sum(l); math.Float64bits(got) != math.Float64bits(want) {
				t.Errorf("sum of %s: %s", all(l), tell(got))
			}
		}
	}
}

// R4: what is answered hangs on what is given alone, also where many ask at one time.
func TestAtOneTime(t *testing.T) {
	l := everything(3000)
	few := []float64{0.1, 1e16, -2.5, minus(0), leastSubnormal, 999999.999, -1e16, 0.7}
	place, total := saidLeast(l), saidSum(few)
	var workers sync.WaitGroup
	for range 4 {
		workers.Go(func() {
			for _, f := range l {
				s, ok := saidText(f)
				text(t, f, s, ok)
				rank(t, f, saidRank(f))
				asSaid(t, s)
			}
			if i := Least(l); i != place {
				t.Errorf("least: %d; it should be %d", i, place)
			}
			if got := Sum(few); !same(got, total) {
				t.Errorf("sum: %s; it should be %s", tell(got), tell(total))
			}
		})
	}
	workers.Wait()
}

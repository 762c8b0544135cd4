package disk

import (
	"fmt"
	"math"
	"slices"
	"strings"
	"sync"
	"testing"

	"ferryslip/api"
)

// The chapter's numbers, said again.
const (
	sectors = 300
	waiting = 700
	size    = 32
)

// noughts are what a new disk's sectors read.
const noughts = "\x00\x00\x00\x00\x00\x00\x00\x00\x00\x00\x00\x00\x00\x00\x00\x00\x00\x00\x00\x00\x00\x00\x00\x00\x00\x00\x00\x00\x00\x00\x00\x00"

// rightAgain says the chapter's words of a disk again.
func rightAgain(d Disk) bool {
	right := len(d.Sectors) != 0 && len(d.Sectors) < 301 && len(d.Cache) < 701
	for _, s := range d.Sectors {
		right = right && len(s) == size
	}
	for _, w := range d.Cache {
		right = right && fitsAgain(d, w)
	}
	return right
}

// fitsAgain: is it a write of one of the disk's sectors?
func fitsAgain(d Disk, w Write) bool {
	return w.At > -1 && w.At <= len(d.Sectors)-1 && len(w.Data) == size
}

// readAgain says the chapter's words of what is read again.
func readAgain(d Disk, at int) (string, api.Errno) {
	if !rightAgain(d) || at < 0 || at >= len(d.Sectors) {
		return "", api.ErrArg
	}
	text := d.Sectors[at]
	for _, w := range d.Cache {
		if w.At == at {
			text = w.Data
		}
	}
	return text, api.OK
}

// putAgain says the chapter's words of Put again.
func putAgain(d Disk, w Write) (Disk, api.Errno) {
	if !rightAgain(d) || !fitsAgain(d, w) {
		return d, api.ErrArg
	}
	if len(d.Cache) == waiting {
		return d, api.ErrFull
	}
	return Disk{d.Sectors, slices.Concat(d.Cache, []Write{w})}, api.OK
}

// crashAgain says the chapter's words of Crash again: sector by sector, the last of its writes that are kept is looked for.
func crashAgain(d Disk, keep []int) Disk {
	if !rightAgain(d) {
		return d
	}
	in := make(map[int]bool)
	for _, place := range keep {
		in[place] = true
	}
	last := make(map[int]int)
	for place, w := range d.Cache {
		if in[place] {
			last[w.At] = place
		}
	}
	var c Disk
	for at, s := range d.Sectors {
		if place, ok := last[at]; ok {
			s = d.Cache[place].Data
		}
		c.Sectors = append(c.Sectors, s)
	}
	return c
}

// syncAgain says the chapter's words of Sync again: each sector is what it reads.
func syncAgain(d Disk) Disk {
	if !rightAgain(d) {
		return d
	}
	return Disk{Sectors: reads(d)}
}

// reads is what each sector of a disk reads, as the chapter says it.
func reads(d Disk) []string {
	l := slices.Clone(d.Sectors)
	for _, w := range d.Cache {
		l[w.At] = w.Data
	}
	return l
}

// runAgain says the chapter's words of Run again, for the operations are few.
func runAgain(d Disk, l []Op, most int) Disk {
	for i, o := range l {
		switch {
		case i >= most:
			return d
		case o.Sync:
			d = syncAgain(d)
		default:
			d, _ = putAgain(d, o.Write)
		}
	}
	return d
}

// same: are they the same sectors, and the same writes?
func same(a, b Disk) bool {
	return slices.Equal(a.Sectors, b.Sectors) && slices.Equal(a.Cache, b.Cache)
}

// short writes what is told, as far as anybody reads on.
func short(x any) string { return fmt.Sprintf("%.600s", fmt.Sprintf("%q", fmt.Sprint(x))) }

// data is a write's Data, 32 bytes, another one for each number.
func data(i int) string { return fmt.Sprintf("%032d", i) }

// fresh is a new disk.
func fresh(t *testing.T, n int) Disk {
	t.Helper()
	d, e := New(n)
	if e != api.OK {
		t.Fatalf("New of %d: %d", n, e)
	}
	return d
}

// full is a disk of so many sectors, each other than all others, on which so many writes wait, of one sector behind the other, each of other Data.
func full(n, writes int) Disk {
	var d Disk
	for i := range n {
		d.Sectors = append(d.Sectors, data(-i-1))
	}
	for i := range writes {
		d.Cache = append(d.Cache, Write{i % n, data(i)})
	}
	return d
}

// waits is a disk of so many sectors, with a write of each place, each of other Data.
func waits(n int, places ...int) Disk {
	d := full(n, 0)
	for i, p := range places {
		d.Cache = append(d.Cache, Write{p, data(i)})
	}
	return d
}

// laid is a disk of so many sectors, on which nothing waits, of which some are as writes of those numbers say.
func laid(n int, numbers map[int]int) Disk {
	d := full(n, 0)
	for at, i := range numbers {
		d.Sectors[at] = data(i)
	}
	return d
}

// right fails, unless Right answers that, and the chapter says the same.
func right(t *testing.T, d Disk, want bool, why string) {
	t.Helper()
	if got := Right(d); got != want {
		t.Errorf("%s: %v", why, got)
	}
	if rightAgain(d) != want {
		t.Fatalf("%s: the chapter says otherwise", why)
	}
}

// read fails, unless Read answers that, and the chapter says the same.
func read(t *testing.T, d Disk, at int, want string, e api.Errno) {
	t.Helper()
	if s, f := Read(d, at); s != want || f != e {
		t.Errorf("%s at %d: %q, %d; it should be %q, %d", short(d), at, s, f, want, e)
	}
	if s, f := readAgain(d, at); s != want || f != e {
		t.Fatalf("%s at %d: the chapter says %q, %d", short(d), at, s, f)
	}
}

// puts fails, unless Put answers that, and the chapter says the same.
func puts(t *testing.T, d Disk, w Write, want Disk, e api.Errno) {
	t.Helper()
	if got, f := Put(d, w); !same(got, want) || f != e {
		t.Errorf("%s with %s: %s, %d; it should be %s, %d", short(d), short(w), short(got), f, short(want), e)
	}
	if got, f := putAgain(d, w); !same(got, want) || f != e {
		t.Fatalf("%s with %s: the chapter says %s, %d", short(d), short(w), short(got), f)
	}
}

// syncs fails, unless Sync answers that, and the chapter says the same.
func syncs(t *testing.T, d, want Disk) {
	t.Helper()
	if got := Sync(d); !same(got, want) {
		t.Errorf("%s: %s; it should be %s", short(d), short(got), short(want))
	}
	if got := syncAgain(d); !same(got, want) {
		t.Fatalf("%s: the chapter says %s", short(d), short(got))
	}
}

// crashes fails, unless Crash answers that, and the chapter says the same.
func crashes(t *testing.T, d Disk, keep []int, want Disk) {
	t.Helper()
	if got := Crash(d, keep); !same(got, want) {
		t.Errorf("%s but %v: %s; it should be %s", short(d), keep, short(got), short(want))
	}
	if got := crashAgain(d, keep); !same(got, want) {
		t.Fatalf("%s but %v: the chapter says %s", short(d), keep, short(got))
	}
}

// runs fails, unless Run answers that, and the chapter says the same.
func runs(t *testing.T, d Disk, l []Op, most int, want Disk) {
	t.Helper()
	if got := Run(d, l, most); !same(got, want) {
		t.Errorf("%s, %d of %s: %s; it should be %s", short(d), most, short(l), short(got), short(want))
	}
	if got := runAgain(d, l, most); !same(got, want) {
		t.Fatalf("%s, %d of %s: the chapter says %s", short(d), most, short(l), short(got))
	}
}

// ops are those of a text: a number is a write of that sector, each of other Data; s is a sync, x a write of no sector, y one of short Data.
func ops(text string) []Op {
	var l []Op
	for i, s := range strings.Fields(text) {
		o := Op{Write: Write{Data: data(i)}}
		switch s {
		case "s":
			o = Op{Sync: true}
		case "x":
			o.Write.At = -1
		case "y":
			o.Write.Data = "short"
		default:
			fmt.Sscan(s, &o.Write.At)
		}
		l = append(l, o)
	}
	return l
}

// writes are operations that write, of one sector behind the other.
func writes(n, many int) []Op {
	var l []Op
	for i := range many {
		l = append(l, Op{Write: Write{i % n, data(i)}})
	}
	return l
}

// dice makes numbers, always the same ones of one seed, each from 0 to below-1.
func dice(seed int) func(below int) int {
	x := uint64(seed)*0x9e3779b97f4a7c15 + 1
	return func(below int) int {
		x = x*6364136223846793005 + 1442695040888963407
		return int(x >> 33 % uint64(below))
	}
}

// pick is one of several.
func pick[T any](next func(int) int, l []T) T { return l[next(len(l))] }

// upTo are the numbers from 0 on.
func upTo(n int) []int {
	var l []int
	for i := range n {
		l = append(l, i)
	}
	return l
}

// backwards is a list in the opposite order.
func backwards[T any](l []T) []T {
	l = slices.Clone(l)
	slices.Reverse(l)
	return l
}

// ends are numbers far out, none of them a place on any disk, nor in any cache.
var ends = []int{math.MinInt, math.MinInt + 1, -1 << 32, -1<<32 + 1, -1 << 31, -701, -700, -301, -300, -256, -32, -2, -1, 700, 701, 1 << 16, 1<<31 - 1, 1 << 31, 1 << 32, 1<<32 + 1, math.MaxInt - 1, math.MaxInt}

// outside are numbers of no sector of a disk of so many.
func outside(n int) []int { return append([]int{n, n + 1, n + size, 2 * n}, ends...) }

// unfit are Data of other than 32 bytes.
var unfit = []string{"", "x", data(1)[:31], data(1) + "x", data(1) + data(2), strings.Repeat("\u00e4", 32), noughts[1:], noughts + "\x00"}

// odd are Data of 32 bytes: noughts, letters of several bytes, and what is no text.
var odd = []string{noughts, data(0), strings.Repeat("\u00e4", 16), strings.Repeat("\xff", 32), strings.Repeat("\x00\xff", 16), strings.Repeat("\U0001f6a2", 8), "S" + noughts[1:], noughts[1:] + "S"}

// P17.1, P17.2: the chapter's example, and the same disk behind a crash that keeps the write, and behind a sync.
func TestExample(t *testing.T) {
	d := fresh(t, 2)
	read(t, d, 1, noughts, api.OK)
	d, e := Put(d, Write{1, data(7)})
	if e != api.OK {
		t.Fatal(e)
	}
	read(t, d, 1, data(7), api.OK)
	read(t, d, 0, noughts, api.OK)
	for _, keep := range [][]int{nil, {}} {
		lost := Crash(d, keep)
		read(t, lost, 1, noughts, api.OK)
		right(t, lost, true, "behind a crash")
		crashes(t, d, keep, fresh(t, 2))
	}
	crashes(t, d, []int{0}, Disk{Sectors: []string{noughts, data(7)}})
	syncs(t, d, Disk{Sectors: []string{noughts, data(7)}})
}

// P17.1: of each number of sectors there may be, and of all around.
func TestNew(t *testing.T) {
	if len(noughts) != size || strings.Trim(noughts, "\x00") != "" {
		t.Fatalf("%q", noughts)
	}
	for n := -400; n <= 1100; n++ {
		d, e := New(n)
		if n < 1 || n > sectors {
			if e != api.ErrArg || len(d.Sectors) != 0 || len(d.Cache) != 0 {
				t.Errorf("%d: %d, %s", n, e, short(d))
			}
			continue
		}
		if e != api.OK || len(d.Sectors) != n || len(d.Cache) != 0 {
			t.Errorf("%d: %d, %d sectors, %d writes", n, e, len(d.Sectors), len(d.Cache))
		}
		right(t, d, true, "a new one")
		for at, s := range d.Sectors {
			if s != noughts {
				t.Errorf("%d: %d is %q", n, at, s)
			}
			read(t, d, at, noughts, api.OK)
		}
	}
	for _, n := range append([]int{1<<32 + 2, -1<<32 + 2}, ends...) {
		if d, e := New(n); e != api.ErrArg || len(d.Sectors) != 0 || len(d.Cache) != 0 {
			t.Errorf("%d: %d, %s", n, e, short(d))
		}
	}
}

// P17.1: how many sectors, and how many writes, there are.
func TestRightMany(t *testing.T) {
	right(t, Disk{}, false, "nothing")
	right(t, Disk{[]string{}, []Write{}}, false, "empty lists")
	right(t, Disk{Cache: []Write{{0, data(0)}}}, false, "a write alone")
	right(t, Disk{[]string{data(0)}, []Write{}}, true, "an empty cache")
	for n := 1; n <= 310; n++ {
		right(t, full(n, 0), n <= sectors, fmt.Sprint(n, " sectors"))
		right(t, full(n, n), n <= sectors, fmt.Sprint(n, " sectors and writes"))
		right(t, full(n, waiting), n <= sectors, fmt.Sprint(n, " sectors with 700 writes"))
		right(t, full(n, waiting+1), false, fmt.Sprint(n, " sectors with 701 writes"))
	}
	for _, n := range []int{1, 2, 299, 300} {
		for many := 600; many < 800; many++ {
			right(t, full(n, many), many <= waiting, fmt.Sprint(n, " sectors, ", many, " writes"))
		}
	}
	right(t, full(1000, 0), false, "1000 sectors")
	right(t, full(1, 10000), false, "10000 writes")
}

// P17.1: of what Data each sector is, and each write, wherever it stands.
func TestRightData(t *testing.T) {
	for _, n := range []int{1, 2, 3, 9, 299, 300} {
		for _, many := range []int{1, 2, 5, 699, 700} {
			for _, i := range []int{0, n / 2, n - 1} {
				for _, s := range unfit {
					d := full(n, many)
					d.Sectors[i] = s
					right(t, d, false, fmt.Sprintf("sector %d of %d: %q", i, n, s))
					d.Cache = nil
					right(t, d, false, fmt.Sprintf("sector %d of %d, with no cache: %q", i, n, s))
				}
				for _, s := range odd {
					d := full(n, many)
					d.Sectors[i] = s
					right(t, d, true, fmt.Sprintf("sector %d of %d: %q", i, n, s))
				}
			}
			for _, i := range []int{0, many / 2, many - 1} {
				for _, s := range unfit {
					d := full(n, many)
					d.Cache[i].Data = s
					right(t, d, false, fmt.Sprintf("write %d of %d: %q", i, many, s))
				}
				for _, s := range odd {
					d := full(n, many)
					d.Cache[i].Data = s
					right(t, d, true, fmt.Sprintf("write %d of %d: %q", i, many, s))
				}
			}
		}
	}
}

// P17.1: of which sector each write is, wherever it stands.
func TestRightAt(t *testing.T) {
	for _, n := range []int{1, 2, 3, 9, 299, 300} {
		for _, many := range []int{1, 2, 5, 699, 700} {
			for _, i := range []int{0, many / 2, many - 1} {
				d := full(n, many)
				for _, place := range outside(n) {
					d.Cache[i].At = place
					right(t, d, false, fmt.Sprintf("write %d of %d at %d of %d", i, many, place, n))
				}
				for _, place := range []int{0, n / 2, n - 1} {
					d.Cache[i].At = place
					right(t, d, true, fmt.Sprintf("write %d of %d at %d of %d", i, many, place, n))
				}
			}
		}
	}
}

// none are what is no disk, for each reason, with nothing else wrong, and with more that is wrong.
func none() []Disk {
	all := []Disk{{}, {Sectors: []string{}}, {Cache: []Write{{0, data(0)}}}, full(301, 0), full(301, 5), full(301, 700), full(1, 701), full(300, 701), full(2, 1000), full(400, 800)}
	for _, n := range []int{1, 3, 300} {
		for _, many := range []int{0, 1, 4, 700} {
			for _, i := range []int{0, n / 2, n - 1} {
				for _, s := range unfit {
					d := full(n, many)
					d.Sectors[i] = s
					all = append(all, d)
				}
			}
		}
		for _, many := range []int{1, 4, 700} {
			for _, i := range []int{0, many / 2, many - 1} {
				for _, s := range unfit {
					d := full(n, many)
					d.Cache[i].Data = s
					all = append(all, d)
				}
				for _, place := range outside(n) {
					d := full(n, many)
					d.Cache[i].At = place
					all = append(all, d)
				}
			}
		}
	}
	return append(all, Disk{[]string{"", "short"}, []Write{{2, "x"}, {-1, data(0)}}})
}

// P17.1: of what is no disk, for each reason, Read and Put tell ErrArg, and all others answer it as it is.
func TestNone(t *testing.T) {
	for _, d := range none() {
		right(t, d, false, short(d))
		many := len(d.Cache)
		for _, place := range []int{math.MinInt, -1, 0, 1, len(d.Sectors) - 1, len(d.Sectors), many, math.MaxInt} {
			read(t, d, place, "", api.ErrArg)
			puts(t, d, Write{place, data(9)}, d, api.ErrArg)
			puts(t, d, Write{place, "short"}, d, api.ErrArg)
			crashes(t, d, []int{place, 0}, d)
		}
		syncs(t, d, d)
		crashes(t, d, nil, d)
		crashes(t, d, upTo(many), d)
		for _, l := range [][]Op{nil, ops("s"), ops("0"), ops("0 s"), ops("s 0 0 s 1 x y s 0")} {
			for _, most := range []int{math.MinInt, 0, 1, len(l), math.MaxInt} {
				runs(t, d, l, most, d)
			}
		}
	}
}

// P17.2: Read at each place, with writes of that sector, none, one, two and several, and of others ahead, between and behind.
func TestRead(t *testing.T) {
	for _, c := range []struct {
		places []int
		of     map[int]int
	}{
		{nil, nil},
		{[]int{0}, map[int]int{0: 0}},
		{[]int{2}, map[int]int{2: 0}},
		{[]int{1, 1}, map[int]int{1: 1}},
		{[]int{1, 1, 1, 1}, map[int]int{1: 3}},
		{[]int{0, 1}, map[int]int{0: 0, 1: 1}},
		{[]int{1, 0}, map[int]int{0: 1, 1: 0}},
		{[]int{0, 1, 0}, map[int]int{0: 2, 1: 1}},
		{[]int{2, 0, 1, 1, 0, 2}, map[int]int{0: 4, 1: 3, 2: 5}},
		{[]int{0, 2, 2, 0}, map[int]int{0: 3, 2: 2}},
		{[]int{2, 1, 2, 1, 2, 0, 0}, map[int]int{0: 6, 1: 3, 2: 4}},
	} {
		d := waits(3, c.places...)
		for place := range 3 {
			want := data(-place - 1)
			if i, ok := c.of[place]; ok {
				want = data(i)
			}
			read(t, d, place, want, api.OK)
		}
		for _, place := range outside(3) {
			read(t, d, place, "", api.ErrArg)
		}
	}
}

// P17.2: likewise on disks of all sizes, with caches of many sizes, at all places.
func TestReadAll(t *testing.T) {
	for n := 1; n <= sectors; n++ {
		d := full(n, n*37%701)
		for place := range n {
			want := data(-place - 1)
			if rounds := (len(d.Cache) - place + n - 1) / n; rounds > 0 {
				want = data(place + (rounds-1)*n)
			}
			read(t, d, place, want, api.OK)
		}
		for _, place := range outside(n) {
			read(t, d, place, "", api.ErrArg)
		}
	}
	for _, s := range odd {
		read(t, Disk{Sectors: []string{data(0), s}}, 1, s, api.OK)
		read(t, Disk{Sectors: []string{data(0), data(1)}, Cache: []Write{{1, s}, {0, data(2)}}}, 1, s, api.OK)
	}
}

// P17.2: Put at each place, of each Data, behind what waits.
func TestPut(t *testing.T) {
	for _, n := range []int{1, 2, 3, 10, 299, 300} {
		for _, many := range []int{0, 1, 2, 5, 698, 699} {
			d := full(n, many)
			for _, place := range []int{0, n / 2, n - 1} {
				for _, s := range append(odd, data(many)) {
					w := Write{place, s}
					puts(t, d, w, Disk{d.Sectors, append(full(n, many).Cache, w)}, api.OK)
				}
				for _, s := range unfit {
					puts(t, d, Write{place, s}, d, api.ErrArg)
				}
			}
			for _, place := range outside(n) {
				puts(t, d, Write{place, data(9)}, d, api.ErrArg)
				puts(t, d, Write{place, "short"}, d, api.ErrArg)
			}
		}
	}
}

// P17.2: of a full cache what is no write is told ahead of ErrFull.
func TestPutFull(t *testing.T) {
	for _, n := range []int{1, 2, 300} {
		d := full(n, waiting)
		for _, place := range []int{0, n / 2, n - 1} {
			puts(t, d, Write{place, data(9)}, d, api.ErrFull)
			puts(t, d, d.Cache[0], d, api.ErrFull)
			for _, s := range unfit {
				puts(t, d, Write{place, s}, d, api.ErrArg)
			}
		}
		for _, place := range outside(n) {
			puts(t, d, Write{place, data(9)}, d, api.ErrArg)
			puts(t, d, Write{place, "short"}, d, api.ErrArg)
		}
		// Behind what empties the cache there is room.
		w := Write{n - 1, data(9)}
		puts(t, Sync(d), w, Disk{syncAgain(d).Sectors, []Write{w}}, api.OK)
		puts(t, Crash(d, nil), w, Disk{d.Sectors, []Write{w}}, api.OK)
	}
}

// P17.2: one write behind the other, till 700 wait.
func TestPutAll(t *testing.T) {
	for _, n := range []int{1, 7, 300} {
		d := full(n, 0)
		for i := range waiting + 20 {
			w := Write{(i * 11) % n, data(i)}
			was := d
			var e api.Errno
			d, e = Put(d, w)
			if i >= waiting {
				if e != api.ErrFull || !same(d, was) {
					t.Fatalf("%d: %d", i, e)
				}
				continue
			}
			if e != api.OK || len(d.Cache) != i+1 || d.Cache[i] != w || !slices.Equal(d.Cache[:i], was.Cache) || !slices.Equal(d.Sectors, was.Sectors) {
				t.Fatalf("%d: %d, %s", i, e, short(d))
			}
			read(t, d, w.At, w.Data, api.OK)
		}
	}
}

// P17.2: with no write, one, several of one sector, of unlike sectors, and 700.
func TestSync(t *testing.T) {
	syncs(t, waits(3), full(3, 0))
	syncs(t, Disk{full(3, 0).Sectors, []Write{}}, full(3, 0))
	syncs(t, waits(1, 0), laid(1, map[int]int{0: 0}))
	syncs(t, waits(3, 1), laid(3, map[int]int{1: 0}))
	syncs(t, waits(3, 2, 2), laid(3, map[int]int{2: 1}))
	syncs(t, waits(3, 0, 0, 0, 0), laid(3, map[int]int{0: 3}))
	syncs(t, waits(3, 2, 0), laid(3, map[int]int{0: 1, 2: 0}))
	syncs(t, waits(3, 2, 1, 0, 1, 2, 1), laid(3, map[int]int{0: 2, 1: 5, 2: 4}))
	syncs(t, waits(300, 0, 299, 150, 0), laid(300, map[int]int{0: 3, 150: 2, 299: 1}))
	syncs(t, full(1, 700), laid(1, map[int]int{0: 699}))
	last := make(map[int]int)
	for i := range 700 {
		last[i%300] = i
	}
	syncs(t, full(300, 700), laid(300, last))
	for _, s := range odd {
		syncs(t, Disk{[]string{data(1), data(2)}, []Write{{1, s}}}, Disk{Sectors: []string{data(1), s}})
		syncs(t, Disk{[]string{s, data(2)}, []Write{{1, data(3)}}}, Disk{Sectors: []string{s, data(3)}})
	}
}

// P17.2: keep with nothing, all, the first, the last; in each order; twice; and with what is no place.
func TestCrash(t *testing.T) {
	d := waits(4, 2, 0, 2, 1, 0)
	first, last := laid(4, map[int]int{2: 0}), laid(4, map[int]int{0: 4})
	all := laid(4, map[int]int{0: 4, 1: 3, 2: 2})
	for _, c := range []struct {
		keep []int
		want Disk
	}{
		{nil, full(4, 0)},
		{[]int{}, full(4, 0)},
		{[]int{0, 1, 2, 3, 4}, all},
		{[]int{4, 3, 2, 1, 0}, all},
		{[]int{3, 0, 4, 1, 2}, all},
		{[]int{0, 0, 1, 1, 2, 2, 3, 3, 4, 4}, all},
		{[]int{4, 2, 3}, all},
		{[]int{0}, first},
		{[]int{0, 0, 0}, first},
		{[]int{4}, last},
		{[]int{4, 4}, last},
		{[]int{1}, laid(4, map[int]int{0: 1})},
		{[]int{1, 4}, last},
		{[]int{4, 1}, last},
		{[]int{1, 4, 1}, last},
		{[]int{4, 1, 4, 1}, last},
		{[]int{2, 0}, laid(4, map[int]int{2: 2})},
		{[]int{0, 2, 0}, laid(4, map[int]int{2: 2})},
		{[]int{3, 1}, laid(4, map[int]int{0: 1, 1: 3})},
		{[]int{0, 1, 3}, laid(4, map[int]int{0: 1, 1: 3, 2: 0})},
		{[]int{5}, full(4, 0)},
		{[]int{-1}, full(4, 0)},
		{[]int{-1, 0, 5}, first},
		{[]int{5, 4, -1, -4, -5}, last},
		{ends, full(4, 0)},
		{append([]int{5, 6, 10, 32, 64, 256}, ends...), full(4, 0)},
		{slices.Concat(ends, []int{4, 2, 5, 3, -2}, ends), all},
	} {
		crashes(t, d, c.keep, c.want)
		crashes(t, d, backwards(c.keep), c.want)
		crashes(t, d, slices.Concat(c.keep, c.keep), c.want)
	}
	for _, place := range ends {
		crashes(t, d, []int{place}, full(4, 0))
		crashes(t, d, []int{place, 0}, first)
		crashes(t, full(2, 0), []int{place, 0}, full(2, 0))
	}
}

// P17.2: of several writes of one sector the last that is kept is done, whichever it is.
func TestCrashOne(t *testing.T) {
	for many := 1; many < 9; many++ {
		d := full(1, many)
		for bits := range 1 << many {
			keep, want := []int(nil), full(1, 0)
			for i := range many {
				if bits>>i&1 == 1 {
					keep, want = append(keep, i), laid(1, map[int]int{0: i})
				}
			}
			crashes(t, d, keep, want)
			crashes(t, d, backwards(keep), want)
		}
	}
}

// P17.2: of a full cache, of all sizes of disks: each write alone, all but each, and all.
func TestCrashFull(t *testing.T) {
	for _, n := range []int{1, 2, 13, 299, 300} {
		d := full(n, waiting)
		crashes(t, d, nil, full(n, 0))
		crashes(t, d, upTo(waiting), syncAgain(d))
		crashes(t, d, backwards(upTo(waiting)), syncAgain(d))
		crashes(t, d, upTo(waiting+50), syncAgain(d))
		crashes(t, d, []int{699}, laid(n, map[int]int{699 % n: 699}))
		for i := range waiting {
			crashes(t, d, []int{i}, laid(n, map[int]int{i % n: i}))
			if i%50 == 0 || i > 690 {
				but := slices.Delete(upTo(waiting), i, i+1)
				crashes(t, d, but, crashAgain(d, backwards(but)))
			}
		}
	}
}

// P17.3: with no operations, or none of them.
func TestRunNothing(t *testing.T) {
	for _, d := range []Disk{full(1, 0), full(3, 5), full(300, 700)} {
		for _, most := range append([]int{0, 1, 2}, ends...) {
			runs(t, d, nil, most, d)
			runs(t, d, []Op{}, most, d)
		}
		for _, most := range []int{math.MinInt, math.MinInt + 1, -1 << 32, -1<<32 + 1, -2, -1, 0} {
			runs(t, d, ops("0 s 0"), most, d)
			runs(t, d, ops("s"), most, d)
		}
	}
}

// P17.3: as many operations as most says, or all.
func TestRunMost(t *testing.T) {
	d := full(2, 0)
	l := ops("0 1 s 1 0 0 s s 1")
	want := []Disk{
		d,
		{d.Sectors, []Write{{0, data(0)}}},
		{d.Sectors, []Write{{0, data(0)}, {1, data(1)}}},
		{Sectors: []string{data(0), data(1)}},
		{[]string{data(0), data(1)}, []Write{{1, data(3)}}},
		{[]string{data(0), data(1)}, []Write{{1, data(3)}, {0, data(4)}}},
		{[]string{data(0), data(1)}, []Write{{1, data(3)}, {0, data(4)}, {0, data(5)}}},
		{Sectors: []string{data(5), data(3)}},
		{Sectors: []string{data(5), data(3)}},
		{[]string{data(5), data(3)}, []Write{{1, data(8)}}},
	}
	for most, w := range want {
		runs(t, d, l, most, w)
		runs(t, d, l[:most], math.MaxInt, w)
	}
	for _, most := range []int{9, 10, 11, 700, 1 << 31, 1 << 32, 1<<32 + 1, math.MaxInt - 1, math.MaxInt} {
		runs(t, d, l, most, want[9])
	}
}

// P17.3: a write that is refused does nothing, for each reason, and is counted.
func TestRunRefused(t *testing.T) {
	d := full(3, 0)
	one := func(at int, data string) Op { return Op{Write: Write{at, data}} }
	var wrong []Op
	for _, place := range outside(3) {
		wrong = append(wrong, one(place, data(9)), one(place, "short"))
	}
	for _, s := range unfit {
		wrong = append(wrong, one(0, s), one(2, s), one(3, s))
	}
	a, b := one(1, data(1)), one(2, data(2))
	for _, x := range wrong {
		runs(t, d, []Op{x}, 1, d)
		runs(t, d, []Op{x, a}, 1, d)
		runs(t, d, []Op{x, a}, 2, Disk{d.Sectors, []Write{a.Write}})
		runs(t, d, []Op{a, x, b, x, {Sync: true}, x}, 4, Disk{d.Sectors, []Write{a.Write, b.Write}})
		runs(t, d, []Op{a, x, b, x, {Sync: true}, x}, 9, laid(3, map[int]int{1: 1, 2: 2}))
	}
	runs(t, d, slices.Concat(wrong, []Op{a}, wrong, []Op{b}, wrong), math.MaxInt, Disk{d.Sectors, []Write{a.Write, b.Write}})
	runs(t, d, slices.Concat(wrong, []Op{a}, wrong, []Op{b}, wrong), len(wrong), d)
	runs(t, d, slices.Concat(wrong, []Op{a}, wrong, []Op{b}, wrong), len(wrong)+1, Disk{d.Sectors, []Write{a.Write}})
}

// P17.3: of more than 700 writes with no sync between the first 700 wait; behind a sync there is room again.
func TestRunFull(t *testing.T) {
	for _, n := range []int{1, 3, 299, 300} {
		d := full(n, 0)
		for _, many := range []int{699, 700, 701, 702, 1400, 2000} {
			l := writes(n, many)
			runs(t, d, l, many, full(n, min(many, waiting)))
			runs(t, d, l, 650, full(n, 650))
			synced := slices.Concat(l, ops("s"))
			runs(t, d, synced, many+1, syncAgain(full(n, min(many, waiting))))
			again := slices.Concat(l, ops("x s y"), l)
			want := Disk{syncAgain(full(n, min(many, waiting))).Sectors, full(n, min(many, waiting)).Cache}
			runs(t, d, again, math.MaxInt, want)
		}
		runs(t, full(n, 690), writes(n, 30), 30, Disk{d.Sectors, append(full(n, 690).Cache, full(n, 10).Cache...)})
		runs(t, full(n, 700), writes(n, 30), 30, full(n, 700))
		runs(t, full(n, 700), ops("0"), 1, full(n, 700))
		runs(t, full(n, 700), ops("s 0"), 2, Disk{syncAgain(full(n, 700)).Sectors, []Write{{0, data(1)}}})
	}
}

// P17.3: a sync first, last, twice in a row, and one whose Write says something.
func TestRunSync(t *testing.T) {
	d := waits(3, 2, 1)
	synced := laid(3, map[int]int{1: 1, 2: 0})
	runs(t, d, ops("s"), 1, synced)
	runs(t, d, ops("s s s"), 3, synced)
	runs(t, d, ops("s s 0"), 2, synced)
	runs(t, d, ops("s 0"), 2, Disk{synced.Sectors, []Write{{0, data(1)}}})
	runs(t, d, ops("0 s"), 2, laid(3, map[int]int{0: 0, 1: 1, 2: 0}))
	runs(t, d, ops("2 s s"), 3, laid(3, map[int]int{1: 1, 2: 0}))
	runs(t, full(3, 0), ops("s"), 1, full(3, 0))
	for _, w := range []Write{{0, data(7)}, {2, data(7)}, {3, data(7)}, {-1, data(7)}, {0, ""}, {math.MaxInt, "short"}} {
		sync := Op{Sync: true, Write: w}
		runs(t, d, []Op{sync}, 1, synced)
		runs(t, full(3, 0), []Op{sync}, 1, full(3, 0))
		runs(t, full(3, 0), []Op{{Write: Write{1, data(3)}}, sync, {Write: Write{1, data(4)}}}, 9, Disk{laid(3, map[int]int{1: 3}).Sectors, []Write{{1, data(4)}}})
	}
}

// rows are all rows of up to so many of those operations.
func rows(of []Op, most int) [][]Op {
	all, last := [][]Op{nil}, [][]Op{nil}
	for range most {
		var longer [][]Op
		for _, l := range last {
			for _, o := range of {
				longer = append(longer, slices.Concat(l, []Op{o}))
			}
		}
		all, last = append(all, longer...), longer
	}
	return all
}

// few are unlike operations on a disk of two sectors.
func few() []Op {
	return []Op{{Sync: true}, {Write: Write{0, data(1)}}, {Write: Write{0, data(2)}}, {Write: Write{1, data(1)}}, {Write: Write{2, data(3)}}}
}

// P17.2, P17.3, P17.4: all rows of a few operations, cut off anywhere, with all crashes behind them.
func TestFew(t *testing.T) {
	for _, l := range rows(few(), 5) {
		d := full(2, 0)
		whole := runAgain(d, l, len(l))
		runs(t, d, l, len(l), whole)
		for cut := range len(l) {
			runs(t, Run(d, l, cut), l[cut:], len(l), whole)
		}
		for place := range 2 {
			read(t, whole, place, reads(whole)[place], api.OK)
		}
		syncs(t, whole, Disk{Sectors: reads(whole)})
		for bits := range 1 << len(whole.Cache) {
			var keep []int
			for i := range whole.Cache {
				if bits>>i&1 == 1 {
					keep = append(keep, i)
				}
			}
			crashes(t, whole, keep, crashAgain(whole, keep))
		}
	}
}

// someOps are a row of operations: writes of few, or of all sectors, some of them refused, and syncs, never, seldom or often.
func someOps(next func(int) int, n, many int) []Op {
	var l []Op
	hot, often := pick(next, []int{1, min(n, 3), n, n}), pick(next, []int{1 << 20, 500, 50, 5})
	for i := range many {
		o := Op{Write: Write{next(hot), data(i)}}
		switch next(12) {
		case 0:
			o.Write.At = pick(next, outside(n))
		case 1:
			o.Write.Data = pick(next, unfit)
		case 2:
			o.Write.Data = pick(next, odd)
		case 3:
			o.Write.At = n - 1
		}
		// Of a sync some Writes say something.
		if next(often) == 0 {
			o.Sync = true
			o.Write.At += next(2)
		}
		l = append(l, o)
	}
	return l
}

// state is a disk, and what is done on it.
type state struct {
	d Disk
	l []Op
}

// states are many: disks of all sizes, with caches of many sizes, and rows of operations of many lengths. No test writes into them.
var states = sync.OnceValue(func() []state {
	var all []state
	for seed := range 900 {
		next := dice(seed)
		n := 1 + seed%sectors
		d := full(n, 0)
		for i := range pick(next, []int{0, 0, 1, 2, next(30), next(waiting + 1), 699, 700}) {
			d.Cache = append(d.Cache, Write{next(n), data(10000 + i)})
		}
		many := next(60)
		if seed%9 == 0 {
			many = next(1500)
		}
		all = append(all, state{d, someOps(next, n, many)})
	}
	return all
})

// someKeep are places of a cache, few or many, in no order, some of them twice, and some that are none.
func someKeep(next func(int) int, many int) []int {
	var keep []int
	share := 1 + next(10)
	for i := range many {
		if next(10) < share {
			keep = append(keep, i)
		}
	}
	for range next(5) {
		keep = append(keep, next(many+5), pick(next, ends))
	}
	for i := range keep {
		k := next(i + 1)
		keep[i], keep[k] = keep[k], keep[i]
	}
	return keep
}

// P17.1 to P17.3: over many disks and rows of operations each answer is what the chapter's words say.
func TestEachState(t *testing.T) {
	var syncsSeen, refused, filled int
	for seed, c := range states() {
		next := dice(seed)
		n := len(c.d.Sectors)
		for _, most := range []int{pick(next, ends), 0, 1, next(len(c.l) + 1), len(c.l), len(c.l) + 1} {
			runs(t, c.d, c.l, most, runAgain(c.d, c.l, most))
		}
		d := runAgain(c.d, c.l, len(c.l))
		right(t, d, true, short(d))
		for _, x := range []Disk{c.d, d} {
			syncs(t, x, Disk{Sectors: reads(x)})
			for range 3 {
				keep := someKeep(next, len(x.Cache))
				crashes(t, x, keep, crashAgain(x, keep))
			}
			for _, place := range []int{0, next(n), next(n), n - 1, n, -1, pick(next, ends)} {
				s, e := readAgain(x, place)
				read(t, x, place, s, e)
			}
		}
		for _, o := range c.l[:min(len(c.l), 20)] {
			want, e := putAgain(d, o.Write)
			puts(t, d, o.Write, want, e)
			if e == api.ErrArg {
				refused++
			}
			if e == api.ErrFull {
				filled++
			}
		}
		for _, o := range c.l {
			if o.Sync {
				syncsSeen++
			}
		}
	}
	if syncsSeen < 1000 || refused < 1000 || filled < 200 {
		t.Errorf("only %d, %d, %d", syncsSeen, refused, filled)
	}
}

// told is what Read tells of each sector.
func told(t *testing.T, d Disk) []string {
	t.Helper()
	var l []string
	for place := range d.Sectors {
		s, e := Read(d, place)
		if e != api.OK {
			t.Fatalf("%s at %d: %d", short(d), place, e)
		}
		l = append(l, s)
	}
	return l
}

// P17.4: a sync turns nothing that is read; behind it nothing waits, another one turns nothing, and a crash turns nothing, whatever it keeps.
func TestSyncTurnsNothing(t *testing.T) {
	for seed, c := range states() {
		next := dice(seed)
		for _, d := range []Disk{c.d, Run(c.d, c.l, next(len(c.l)+1)), Run(c.d, c.l, len(c.l))} {
			was, synced := told(t, d), Sync(d)
			if len(synced.Cache) != 0 || !slices.Equal(synced.Sectors, was) || !slices.Equal(told(t, synced), was) {
				t.Fatalf("%s: a sync turned what is read", short(d))
			}
			if !same(Sync(synced), synced) {
				t.Fatalf("%s: a second sync turned it", short(d))
			}
			for _, keep := range [][]int{nil, {0}, upTo(len(d.Cache)), ends, someKeep(next, len(d.Cache))} {
				if !same(Crash(synced, keep), synced) {
					t.Fatalf("%s: a crash that keeps %v turned it, behind a sync", short(d), keep)
				}
			}
			if !same(Crash(d, upTo(len(d.Cache))), synced) {
				t.Fatalf("%s: a crash that keeps all is no sync", short(d))
			}
		}
	}
}

// P17.4: what is cut off anywhere, and gone on with, is as if it had not been cut off: at one place, and at many.
func TestCutOff(t *testing.T) {
	for seed, c := range states() {
		next := dice(seed)
		whole := Run(c.d, c.l, len(c.l))
		step := 1 + len(c.l)/40
		for cut := next(step); cut <= len(c.l); cut += step {
			if got := Run(Run(c.d, c.l, cut), c.l[cut:], len(c.l)); !same(got, whole) {
				t.Fatalf("%s, %s: cut off at %d", short(c.d), short(c.l), cut)
			}
			if got := Run(Run(c.d, c.l[:cut], math.MaxInt), c.l[cut:], len(c.l)-cut); !same(got, whole) {
				t.Fatalf("%s, %s: cut in two at %d", short(c.d), short(c.l), cut)
			}
		}
		d, l := c.d, c.l
		for len(l) > 0 {
			some := next(len(l) + 1)
			d, l = Run(d, l, some), l[some:]
			if seed%2 == 0 && len(l) > 0 {
				d, l = Run(d, l, 1), l[1:]
			}
		}
		if !same(d, whole) {
			t.Fatalf("%s, %s: cut off at many places", short(c.d), short(c.l))
		}
	}
}

// P17.4: operations one by one, by Put and Sync, do what Run does.
func TestOneByOne(t *testing.T) {
	for _, c := range states() {
		d := c.d
		for i, o := range c.l {
			if o.Sync {
				d = Sync(d)
				continue
			}
			was := d
			var e api.Errno
			if d, e = Put(d, o.Write); e != api.OK && !same(d, was) {
				t.Fatalf("%s: %d: refused, and turned", short(c), i)
			}
		}
		if !same(d, Run(c.d, c.l, len(c.l))) {
			t.Fatalf("%s, %s: one by one", short(c.d), short(c.l))
		}
	}
}

// P17.4: behind a crash, wherever the operations were cut off, each sector is what it was at the last sync, or what one of its writes since says.
func TestBehindCrash(t *testing.T) {
	var before, since int
	for seed, c := range states() {
		next := dice(seed)
		for range 4 {
			cut := next(len(c.l) + 1)
			d := Run(c.d, c.l, cut)
			keep := someKeep(next, len(d.Cache))
			crashed := Crash(d, keep)
			if len(crashed.Cache) != 0 || len(crashed.Sectors) != len(d.Sectors) || !Right(crashed) {
				t.Fatalf("%s but %v: %s", short(d), keep, short(crashed))
			}
			said := runAgain(c.d, c.l, cut)
			may := make([][]string, len(said.Sectors))
			for at, s := range said.Sectors {
				may[at] = []string{s}
			}
			for _, w := range said.Cache {
				may[w.At] = append(may[w.At], w.Data)
			}
			for at, s := range crashed.Sectors {
				if !slices.Contains(may[at], s) {
					t.Fatalf("%s but %v: %d is %q", short(d), keep, at, s)
				}
				if s == said.Sectors[at] {
					before++
				} else {
					since++
				}
			}
		}
	}
	if before < 10000 || since < 10000 {
		t.Errorf("only %d, %d", before, since)
	}
}

// P17.4: what a crash has kept stays, and what it has lost never comes again.
func TestGoOn(t *testing.T) {
	for seed, c := range states() {
		next := dice(seed)
		d, again := c.d, c.d
		for range 5 {
			cut := next(len(c.l) + 1)
			d, again = Run(d, c.l, cut), runAgain(again, c.l, cut)
			keep := someKeep(next, len(d.Cache))
			d, again = Crash(d, keep), crashAgain(again, keep)
			if !same(d, again) {
				t.Fatalf("%s, %s: behind some crashes", short(c.d), short(c.l))
			}
		}
	}
}

// spare is a list with room behind it.
func spare[T any](l []T) []T { return append(make([]T, 0, len(l)+800), l...) }

// roomy is a disk whose lists have room behind them.
func roomy(d Disk) Disk { return Disk{spare(d.Sectors), spare(d.Cache)} }

// untouched: is a list as it was, and all of its room, too?
func untouched[T comparable](l, was []T) bool {
	var zero T
	return slices.Equal(l, was) && !slices.ContainsFunc(l[len(l):cap(l)], func(x T) bool { return x != zero })
}

// stays: is a disk as it was, and all of its room, too?
func stays(d, was Disk) bool {
	return untouched(d.Sectors, was.Sectors) && untouched(d.Cache, was.Cache)
}

// fill writes into a list, and behind it.
func fill[T any](l []T, x T) {
	l = l[:cap(l)]
	for i := range l {
		l[i] = x
	}
}

// scribble writes into a disk, and behind its lists.
func scribble(d Disk) {
	fill(d.Sectors, "q")
	fill(d.Cache, Write{-9, "q"})
}

// kept is a disk of which nobody else knows.
func kept(d Disk) Disk { return Disk{slices.Clone(d.Sectors), slices.Clone(d.Cache)} }

// apart fails, unless a call leaves a disk that it is handed as it was, answers the same twice, and answers memory of its own.
func apart(t *testing.T, was Disk, what string, call func(Disk) Disk) {
	t.Helper()
	d := roomy(was)
	got := call(d)
	want := kept(got)
	scribble(got)
	if !stays(d, was) || !same(call(d), want) {
		t.Fatalf("%s, %s: something was written into, or is shared", short(was), what)
	}
	got = call(d)
	scribble(d)
	if !same(got, want) {
		t.Fatalf("%s, %s: the answer was kept in what was handed over", short(was), what)
	}
}

// R1, R3, R4: what calls are handed stays as it was, and what they answer is memory of its own; with an error, and of what is no disk, too.
func TestShares(t *testing.T) {
	for seed, c := range states() {
		next := dice(seed)
		for _, w := range []Write{{0, data(7)}, {-1, data(7)}, {0, "short"}} {
			apart(t, c.d, "Put", func(d Disk) Disk { d, _ = Put(d, w); return d })
		}
		apart(t, c.d, "Sync", Sync)
		for _, keep := range [][]int{nil, {0}, someKeep(next, len(c.d.Cache)), upTo(len(c.d.Cache))} {
			apart(t, c.d, "Crash", func(d Disk) Disk {
				mine := spare(keep)
				d = Crash(d, mine)
				if !untouched(mine, keep) {
					t.Fatalf("%s, Crash: keep was written into", short(c.d))
				}
				fill(mine, 9)
				return d
			})
		}
		for _, most := range []int{-1, 0, 1, next(len(c.l) + 1), len(c.l), math.MaxInt} {
			apart(t, c.d, "Run", func(d Disk) Disk {
				mine := spare(c.l)
				d = Run(d, mine, most)
				if !untouched(mine, c.l) {
					t.Fatalf("%s, Run: the operations were written into", short(c.d))
				}
				fill(mine, Op{true, Write{9, "q"}})
				return d
			})
		}
	}
}

// R1, R3: likewise of what is no disk, which is answered as it is, and of what is read.
func TestNoneShares(t *testing.T) {
	for i, was := range none() {
		apart(t, was, "Put", func(d Disk) Disk { d, _ = Put(d, Write{0, data(7)}); return d })
		apart(t, was, "Sync", Sync)
		apart(t, was, "Crash", func(d Disk) Disk { return Crash(d, []int{0, 1}) })
		apart(t, was, "Run", func(d Disk) Disk { return Run(d, ops("0 s 0"), 3) })
		for _, x := range []Disk{was, full(1+i%300, i%701)} {
			d := roomy(x)
			Read(d, 0)
			Right(d)
			if !stays(d, x) {
				t.Fatalf("%s: Read or Right wrote into it", short(x))
			}
		}
	}
}

// R1: each New answers memory of its own.
func TestNewShares(t *testing.T) {
	for n := 1; n <= sectors; n++ {
		one := fresh(t, n)
		scribble(one)
		if two := fresh(t, n); !slices.Equal(two.Sectors, slices.Repeat([]string{noughts}, n)) || len(two.Cache) != 0 {
			t.Fatalf("%d: %s", n, short(two))
		}
	}
}

// P1: many operations, many places to keep, great Data, and what is far too great for a disk come to an end.
func TestGreat(t *testing.T) {
	var l []Op
	want := full(300, 0)
	for i := range 2000000 {
		l = append(l, Op{i%701 == 700, Write{i * 7 % 300, noughts}})
	}
	for i := range want.Sectors {
		want.Sectors[i] = noughts
	}
	got := Run(full(300, 0), l, len(l))
	if !slices.Equal(got.Sectors, want.Sectors) || len(got.Cache) != len(l)%701 {
		t.Errorf("%d writes wait", len(got.Cache))
	}
	if got := Run(got, slices.Repeat(ops("s"), 2000000), math.MaxInt); !same(got, want) {
		t.Errorf("%s", short(got))
	}
	d := full(300, 700)
	if got := Crash(d, slices.Repeat(backwards(upTo(1000)), 2000)); !same(got, syncAgain(d)) {
		t.Errorf("%s", short(got))
	}
	long := strings.Repeat("w", 1<<24)
	puts(t, full(2, 3), Write{1, long}, full(2, 3), api.ErrArg)
	for _, d := range []Disk{{Sectors: []string{long}}, full(1000000, 0), full(2, 1000000), {full(2, 0).Sectors, []Write{{0, long}}}} {
		if got := Run(d, ops("0 s"), 2); Right(d) || !same(Sync(d), d) || !same(Crash(d, []int{0}), d) || !same(got, d) {
			t.Errorf("%s", short(d))
		}
	}
}

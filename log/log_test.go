package log

import (
	"fmt"
	"math/rand"
	"slices"
	"strings"
	"testing"

	"cubby/api"
	"cubby/chunk"
	"cubby/disk"
)

const most = 1099511627776 // 2^40

// Where the halves begin, and how many places each has.
const (
	half0 = 2
	half1 = 129
	all   = 127
)

// on is a disk, and the test that asks logs on it.
type on struct {
	*disk.Disk
	t *testing.T
}

func fresh(t *testing.T) on { return on{disk.New(), t} }

// list is the texts between spaces.
func list(texts string) []string { return strings.Fields(texts) }

// open opens a log that tells those records.
func (d on) open(want ...string) *Log {
	d.t.Helper()
	l, recs, err := Open(d.Disk)
	if err != api.OK || l == nil || !slices.Equal(recs, want) {
		d.t.Fatalf("Open tells %.60q, %d, want %.60q", recs, err, want)
	}
	if l.Err() != api.OK {
		d.t.Errorf("Err() is %d behind Open", l.Err())
	}
	return l
}

func (d on) noOpen(want api.Errno) {
	d.t.Helper()
	l, recs, err := Open(d.Disk)
	if l != nil || len(recs) != 0 || err != want {
		d.t.Errorf("Open is %v, %q, %d, want error %d", l, recs, err, want)
	}
}

// did holds what a call answered against what it should.
func (d on) did(err, want api.Errno) {
	d.t.Helper()
	if err != want {
		d.t.Errorf("answer is %d, want %d", err, want)
	}
}

// tells holds what Err and Room tell against what they should.
func (d on) tells(l *Log, err api.Errno, room int) {
	d.t.Helper()
	if l.Err() != err || l.Room() != room {
		d.t.Errorf("Err() is %d, Room() is %d, want %d, %d", l.Err(), l.Room(), err, room)
	}
}

// put writes a chunk into a sector: its epoch, its number, its flags by the letters F and L, its data.
func (d on) put(sector, epoch, seq int, flags, data string) {
	d.t.Helper()
	if err := d.Write(sector, enc(epoch, seq, flags, data)); err != api.OK {
		d.t.Fatalf("Write is %d", err)
	}
}

func enc(epoch, seq int, flags, data string) string {
	s, _ := chunk.Encode(api.Chunk{
		Epoch: epoch,
		Seq:   seq,
		First: strings.Contains(flags, "F"),
		Last:  strings.Contains(flags, "L"),
		Data:  data,
	})
	return s
}

// holds holds all sectors against those that are named; the others are empty.
func (d on) holds(want map[int]string) {
	d.t.Helper()
	for i := range api.Sectors {
		if s, _ := d.Read(i); s != want[i] {
			c, err := chunk.Decode(s)
			d.t.Errorf("sector %d is %v, %d", i, c, err)
		}
	}
}

func (d on) sector(i int, want string) {
	d.t.Helper()
	if s, _ := d.Read(i); s != want {
		c, err := chunk.Decode(s)
		d.t.Errorf("sector %d is %v, %d", i, c, err)
	}
}

// calls runs f, and tells how many calls the disk had of it.
func (d on) calls(want int, f func()) {
	d.t.Helper()
	n := d.Calls()
	f()
	if n = d.Calls() - n; n != want {
		d.t.Errorf("%d calls, want %d", n, want)
	}
}

// The chapter's examples.
func TestExamples(t *testing.T) {
	d := fresh(t)
	l := d.open()
	d.did(l.Append(list("a b")), api.OK)
	l = d.open("a", "b")
	d.Cut(3, 1)
	d.did(l.Append(list("c d")), api.ErrDead)
	d.Power()
	d.open("a", "b", "c")

	d = fresh(t)
	l = d.open()
	d.did(l.Append(list("a b")), api.OK)
	d.Cut(2, 1) // the first write alone is kept also when the power goes with the second one
	d.did(l.Append(list("c d")), api.ErrDead)
	d.Power()
	d.open("a", "b", "c")
}

// P5.1: each Open writes the head of the next epoch, with the same base and half, into the sector of its number modulo 2, and makes it last.
func TestOpenWritesHead(t *testing.T) {
	d := fresh(t)
	want := map[int]string{}
	for epoch := 1; epoch <= 5; epoch++ {
		d.calls(2, func() { d.tells(d.open(), api.OK, all) })
		want[epoch%2] = enc(epoch, 0, "FL", "0")
		d.holds(want)
	}
	d.Cut(1, 0)
	d.Barrier()
	d.Power()
	d.holds(want)
}

// P5.1: of heads that are none, or none at all, the epoch is 0, the base 0, the half 0; of two the greater epoch counts.
func TestHeads(t *testing.T) {
	zero, one := "zero", "one" // what the halves hold
	cases := []struct {
		name         string
		head0, head1 string
		rec          string
		epoch, base  int // of the head that Open writes
		half         string
	}{
		{"none", "", "", zero, 1, 0, "0"},
		{"bytes that are no chunk", "x", "0", zero, 1, 0, "0"},
		{"one at 0", enc(4, 0, "FL", "1"), "", one, 5, 0, "1"},
		{"one at 1", "", enc(3, 0, "FL", "1"), one, 4, 0, "1"},
		{"epoch 0, half 1", enc(0, 0, "FL", "1"), "", one, 1, 0, "1"},
		{"epoch 0 beside 1", enc(0, 0, "FL", "1"), enc(1, 0, "FL", "0"), zero, 2, 0, "0"},
		{"greater at 0", enc(6, 0, "FL", "1"), enc(5, 0, "FL", "0"), one, 7, 0, "1"},
		{"greater at 1", enc(6, 0, "FL", "1"), enc(7, 0, "FL", "0"), zero, 8, 0, "0"},
		{"far greater at 1", enc(6, 0, "FL", "0"), enc(most-1, 0, "FL", "1"), one, most, 0, "1"},
		{"odd at 0", enc(7, 0, "FL", "1"), "", zero, 1, 0, "0"},
		{"even at 1", "", enc(8, 0, "FL", "1"), zero, 1, 0, "0"},
		{"exchanged", enc(5, 0, "FL", "1"), enc(6, 0, "FL", "1"), zero, 1, 0, "0"},
		{"odd at 0, good at 1", enc(9, 0, "FL", "0"), enc(5, 0, "FL", "1"), one, 6, 0, "1"},
		{"base above epoch", enc(4, 5, "FL", "1"), enc(1, 0, "FL", "0"), zero, 2, 0, "0"},
		{"base far above", enc(4, most, "FL", "1"), "", zero, 1, 0, "0"},
		{"no First", enc(4, 0, "L", "1"), "", zero, 1, 0, "0"},
		{"no Last", enc(4, 0, "F", "1"), "", zero, 1, 0, "0"},
		{"neither", enc(4, 0, "", "1"), "", zero, 1, 0, "0"},
		{"half 2", enc(4, 0, "FL", "2"), "", zero, 1, 0, "0"},
		{"half empty", enc(4, 0, "FL", ""), "", zero, 1, 0, "0"},
		{"half 01", enc(4, 0, "FL", "01"), "", zero, 1, 0, "0"},
		{"half 1 and more", enc(4, 0, "FL", "1 "), "", zero, 1, 0, "0"},
		{"half as a byte", enc(4, 0, "FL", "\x01"), "", zero, 1, 0, "0"},
		{"half as a minus", enc(4, 0, "FL", "-"), "", zero, 1, 0, "0"},
		{"bad at 0, good at 1", enc(8, 0, "FL", "2"), enc(3, 0, "FL", "1"), one, 4, 0, "1"},
		{"good at 0, bad at 1", enc(2, 0, "FL", "1"), enc(9, 0, "L", "0"), one, 3, 0, "1"},
	}
	for _, c := range cases {
		t.Run(c.name, func(t *testing.T) {
			d := fresh(t)
			d.put(half0, 0, 0, "FL", zero)
			d.put(half1, 0, 0, "FL", one)
			d.Write(0, c.head0)
			d.Write(1, c.head1)
			d.open(c.rec)
			d.sector(c.epoch%2, enc(c.epoch, c.base, "FL", c.half))
			other := c.head0
			if c.epoch%2 == 0 {
				other = c.head1
			}
			d.sector(1-c.epoch%2, other)
		})
	}
}

// P5.1: a head's base is kept; chunks below it are none.
func TestBase(t *testing.T) {
	for _, c := range []struct {
		base, epoch int
		want        []string
	}{{0, 3, list("a")}, {3, 3, list("a")}, {4, 3, nil}, {4, 4, list("a")}, {4, 5, nil}, {3, 4, list("a")}, {0, 0, list("a")}} {
		d := fresh(t)
		d.put(0, 4, c.base, "FL", "1")
		d.put(half1, c.epoch, 0, "FL", "a")
		d.open(c.want...)
		d.sector(1, enc(5, c.base, "FL", "1"))
	}
}

// P5.1: which chunks the scan takes, under a head of the epoch 8 and the base 3, and what of them are records.
func TestScan(t *testing.T) {
	type c struct {
		epoch, seq int
		flags      string
		data       string
	}
	cases := []struct {
		name   string
		chunks []c
		want   string
		next   int
	}{
		{"nothing", nil, "", 0},
		{"one", []c{{3, 0, "FL", "a"}}, "a", 1},
		{"of the head's epoch", []c{{8, 0, "FL", "a"}}, "a", 1},
		{"above the head's epoch", []c{{9, 0, "FL", "a"}}, "", 0},
		{"below the base", []c{{2, 0, "FL", "a"}}, "", 0},
		{"one behind the other", []c{{3, 0, "FL", "a"}, {3, 1, "FL", "b"}, {3, 2, "FL", "c"}}, "a b c", 3},
		{"rising epochs", []c{{3, 0, "FL", "a"}, {5, 1, "FL", "b"}, {5, 2, "FL", "c"}, {8, 3, "FL", "d"}}, "a b c d", 4},
		{"falling epoch", []c{{5, 0, "FL", "a"}, {4, 1, "FL", "b"}}, "a", 1},
		{"falling, then risen", []c{{5, 0, "FL", "a"}, {4, 1, "FL", "b"}, {5, 2, "FL", "c"}}, "a", 1},
		{"above the head behind others", []c{{5, 0, "FL", "a"}, {9, 1, "FL", "b"}}, "a", 1},
		{"not its place", []c{{3, 1, "FL", "a"}}, "", 0},
		{"its place behind", []c{{3, 0, "FL", "a"}, {3, 0, "FL", "b"}}, "a", 1},
		{"a place ahead", []c{{3, 0, "FL", "a"}, {3, 2, "FL", "b"}}, "a", 1},
		{"a gap", []c{{3, 0, "FL", "a"}, {-1, 0, "", ""}, {3, 2, "FL", "b"}}, "a", 1},
		{"of three chunks", []c{{3, 0, "F", "a"}, {3, 1, "", "b"}, {3, 2, "L", "c"}}, "abc", 3},
		{"without First at first", []c{{3, 0, "L", "a"}}, "", 0},
		{"neither at first", []c{{3, 0, "", "a"}, {3, 1, "L", "b"}}, "", 0},
		{"without Last at last", []c{{3, 0, "FL", "a"}, {3, 1, "F", "b"}}, "a", 1},
		{"two without Last at last", []c{{3, 0, "FL", "a"}, {3, 1, "F", "b"}, {3, 2, "", "c"}}, "a", 1},
		{"First behind no Last", []c{{3, 0, "F", "a"}, {3, 1, "FL", "b"}}, "", 0},
		{"First in a greater epoch behind no Last", []c{{3, 0, "FL", "z"}, {3, 1, "F", "a"}, {4, 2, "FL", "b"}}, "z", 1},
		{"no First behind Last", []c{{3, 0, "FL", "a"}, {3, 1, "L", "b"}}, "a", 1},
		{"no First in a greater epoch", []c{{3, 0, "F", "a"}, {4, 1, "L", "b"}}, "", 0},
		{"no First in a lesser epoch", []c{{5, 0, "F", "a"}, {4, 1, "L", "b"}}, "", 0},
		{"a greater epoch within, later", []c{{3, 0, "F", "a"}, {3, 1, "", "b"}, {4, 2, "L", "c"}}, "", 0},
		{"epochs that rise between records", []c{{3, 0, "F", "a"}, {3, 1, "L", "b"}, {4, 2, "F", "c"}, {4, 3, "L", "d"}}, "ab cd", 4},
		{"pieces of any length", []c{{3, 0, "F", ""}, {3, 1, "", "ab"}, {3, 2, "", ""}, {3, 3, "L", "c"}}, "abc", 4},
	}
	for _, x := range cases {
		for _, at := range []struct {
			half  string
			first int
		}{{"0", half0}, {"1", half1}} {
			t.Run(x.name+" "+at.half, func(t *testing.T) {
				d := fresh(t)
				d.put(0, 8, 3, "FL", at.half)
				for i, c := range x.chunks {
					if c.epoch >= 0 {
						d.put(at.first+i, c.epoch, c.seq, c.flags, c.data)
					}
				}
				l := d.open(list(x.want)...)
				d.tells(l, api.OK, all-x.next)
				d.did(l.Append(list("new")), api.OK)
				d.sector(at.first+x.next, enc(9, x.next, "FL", "new"))
				d.open(append(list(x.want), "new")...)
			})
		}
	}
}

// P5.1: with no head the epoch is 0, and so are those of chunks that count.
func TestScanWithoutHead(t *testing.T) {
	d := fresh(t)
	d.put(half0, 0, 0, "FL", "a")
	d.put(half0+1, 1, 1, "FL", "b")
	l := d.open("a")
	d.did(l.Append(list("c")), api.OK)
	d.open("a", "c")
}

// P5.1: a sector that is no chunk ends the scan, also one of which a byte was spoilt; empty records are some.
func TestScanEnds(t *testing.T) {
	d := fresh(t)
	l := d.open()
	d.did(l.Append([]string{"", "a", "", "b"}), api.OK)
	d.open("", "a", "", "b")
	s, _ := d.Read(half0 + 2)
	d.Write(half0+2, s[:2]+"\x02"+s[3:]) // its flags, under the check sum that was
	d.tells(d.open("", "a"), api.OK, all-2)
}

// P5.1: the scan goes to the half's end, not on into what lies behind it.
func TestScanToTheEnd(t *testing.T) {
	for _, at := range []struct {
		half  string
		first int
	}{{"0", half0}, {"1", half1}} {
		d := fresh(t)
		d.put(1, 1, 0, "FL", at.half)
		var want []string
		for i := range all {
			d.put(at.first+i, 1, i, "FL", fmt.Sprint(i))
			want = append(want, fmt.Sprint(i))
		}
		if at.half == "0" {
			d.put(half1, 1, all, "FL", "behind")
		}
		l := d.open(want...)
		d.tells(l, api.OK, 0)
		d.did(l.Append(list("x")), api.ErrFull)
		d.did(l.Append([]string{""}), api.ErrFull)
		d.did(l.Append(nil), api.OK)
	}
}

// P5.1: the first error of the disk ends Open; the power that is off is told ahead of an epoch that may not rise.
func TestOpenFails(t *testing.T) {
	d := fresh(t)
	d.did(d.open().Append(list("a")), api.OK)
	d.Fail(1)
	d.calls(1, func() { d.noOpen(api.ErrIO) })
	d.sector(0, "")
	d.Fail(2)
	d.calls(2, func() { d.noOpen(api.ErrIO) })
	d.sector(0, enc(2, 0, "FL", "0"))
	for _, n := range []int{1, 2} {
		for keep := range uint64(2) {
			d.Cut(n, keep)
			d.calls(n, func() { d.noOpen(api.ErrDead) })
			d.calls(0, func() { d.noOpen(api.ErrDead) })
			d.Power()
		}
	}
	d.open("a")

	d = fresh(t)
	d.put(0, most, 0, "FL", "0")
	d.Cut(1, 1)
	d.Barrier()
	d.noOpen(api.ErrDead)
	d.Power()
	d.noOpen(api.ErrFull)
}

// P5.1: the last epoch is 2^40: it is reached, and then none is opened any more, nor is a thing written.
func TestLastEpoch(t *testing.T) {
	d := fresh(t)
	d.put(1, most-1, 0, "FL", "1")
	d.put(half1, 7, 0, "FL", "a")
	l := d.open("a")
	want := map[int]string{
		0:         enc(most, 0, "FL", "1"),
		1:         enc(most-1, 0, "FL", "1"),
		half1:     enc(7, 0, "FL", "a"),
		half1 + 1: enc(most, 1, "FL", "b"),
	}
	d.did(l.Append(list("b")), api.OK)
	d.calls(0, func() {
		d.did(l.Renew(list("c")), api.ErrFull)
		d.did(l.Renew(nil), api.ErrFull)
		d.tells(l, api.OK, all-2)
		d.noOpen(api.ErrFull)
	})
	d.holds(want)
	d.did(l.Append(nil), api.OK)

	d = fresh(t)
	d.put(0, most-2, 0, "FL", "1")
	l = d.open()
	d.did(l.Renew(list("c")), api.OK)
	d.did(l.Renew(list("d")), api.ErrFull)
	d.did(l.Append(list("e")), api.OK)
	d.sector(0, enc(most, most, "FL", "0"))
	d.sector(half0, enc(most, 0, "FL", "c"))
	d.sector(half0+1, enc(most, 1, "FL", "e"))
	d.noOpen(api.ErrFull)
}

// P5.2: each record as the chunks of its pieces, from the next place on, by the log's epoch; then a barrier.
func TestAppend(t *testing.T) {
	d := fresh(t)
	l := d.open()
	long := strings.Repeat("x", 96) + strings.Repeat("y", 96) + "z"
	d.calls(6, func() { d.did(l.Append([]string{"a", "", long}), api.OK) })
	d.tells(l, api.OK, all-5)
	d.Cut(1, 0) // all lasts
	d.Barrier()
	d.Power()
	want := map[int]string{
		1:         enc(1, 0, "FL", "0"),
		half0:     enc(1, 0, "FL", "a"),
		half0 + 1: enc(1, 1, "FL", ""),
		half0 + 2: enc(1, 2, "F", strings.Repeat("x", 96)),
		half0 + 3: enc(1, 3, "", strings.Repeat("y", 96)),
		half0 + 4: enc(1, 4, "L", "z"),
	}
	d.holds(want)
	l = d.open("a", "", long)
	d.calls(3, func() { d.did(l.Append([]string{strings.Repeat("b", 97)}), api.OK) })
	d.calls(2, func() { d.did(l.Append([]string{strings.Repeat("c", 96)}), api.OK) })
	d.tells(l, api.OK, all-8)
	want[0] = enc(2, 0, "FL", "0")
	want[half0+5] = enc(2, 5, "F", strings.Repeat("b", 96))
	want[half0+6] = enc(2, 6, "L", "b")
	want[half0+7] = enc(2, 7, "FL", strings.Repeat("c", 96))
	d.holds(want)
}

// P5.2: of no records there is the barrier alone, which is needed by what another one wrote.
func TestAppendNothing(t *testing.T) {
	d := fresh(t)
	l := d.open()
	d.Write(200, "loose")
	d.calls(1, func() { d.did(l.Append(nil), api.OK) })
	d.calls(1, func() { d.did(l.Append([]string{}), api.OK) })
	d.tells(l, api.OK, all)
	d.Cut(1, 0)
	d.did(l.Append(nil), api.ErrDead)
	d.Power()
	d.sector(200, "loose")
	d.tells(l, api.ErrDead, all)
}

// P5.2: what doesn't fit is refused, nothing is written of it, and the log goes on.
func TestAppendFull(t *testing.T) {
	cases := []struct {
		name  string
		ahead int // chunks
		recs  []string
		fits  bool
	}{
		{"all places by one record", 0, []string{strings.Repeat("x", 96*all)}, true},
		{"a byte too many", 0, []string{strings.Repeat("x", 96*all+1)}, false},
		{"all places by empty records", 0, make([]string, all), true},
		{"one empty record too many", 0, make([]string, all+1), false},
		{"far too many", 0, make([]string, 5000), false},
		{"far too long", 0, []string{strings.Repeat("x", 100000)}, false},
		{"the last two places", all - 2, []string{strings.Repeat("x", 97)}, true},
		{"two for the last one", all - 1, []string{strings.Repeat("x", 97)}, false},
		{"the last place", all - 1, list("a"), true},
		{"none is left", all, []string{""}, false},
		{"nothing fits anywhere", all, nil, true},
		{"the first would fit", all - 2, []string{"a", "b", "c"}, false},
		{"short ones and a long one", 100, []string{"a", strings.Repeat("x", 96*26)}, true},
		{"short ones and one too long", 100, []string{"a", strings.Repeat("x", 96*26+1)}, false},
	}
	for _, c := range cases {
		t.Run(c.name, func(t *testing.T) {
			d := fresh(t)
			l := d.open()
			ahead := make([]string, c.ahead)
			d.did(l.Append(ahead), api.OK)
			if c.fits {
				d.did(l.Append(c.recs), api.OK)
				d.open(append(ahead, c.recs...)...)
				return
			}
			d.calls(0, func() { d.did(l.Append(c.recs), api.ErrFull) })
			d.tells(l, api.OK, all-c.ahead)
			d.did(l.Append(make([]string, all-c.ahead)), api.OK)
			d.open(make([]string, all)...)
		})
	}
}

// failures are how a disk's call goes wrong.
var failures = []struct {
	name string
	err  api.Errno
	come func(d on, n int)
}{
	{"fails", api.ErrIO, func(d on, n int) { d.Fail(n) }},
	{"goes dark", api.ErrDead, func(d on, n int) { d.Cut(n, ^uint64(0)) }},
}

// still holds that a log in which something went wrong does nothing any more, and tells that first.
func (d on) still(l *Log, err api.Errno, room int) {
	d.t.Helper()
	d.Power()
	d.tells(l, err, room)
	d.calls(0, func() {
		for _, recs := range [][]string{nil, list("x"), make([]string, 500)} {
			d.did(l.Append(recs), err)
			d.did(l.Renew(recs), err)
		}
	})
	d.tells(l, err, room)
}

// P5.2: the first error ends an Append: what was ahead of it stays, nothing is written behind it; it is told from then on.
func TestAppendFails(t *testing.T) {
	for _, f := range failures {
		for n := 1; n <= 4; n++ {
			t.Run(fmt.Sprint(f.name, n), func(t *testing.T) {
				d := fresh(t)
				l := d.open()
				d.did(l.Append(list("a")), api.OK)
				f.come(d, n)
				d.calls(n, func() { d.did(l.Append(list("b c d")), f.err) })
				d.still(l, f.err, all-1)
				there := n - 1 // how many were written
				if f.err == api.ErrDead {
					there = n // as the power goes with a write, that is on the disk
				}
				there = min(there, 3)
				want := map[int]string{1: enc(1, 0, "FL", "0"), half0: enc(1, 0, "FL", "a")}
				for i, s := range list("b c d")[:there] {
					want[half0+1+i] = enc(1, 1+i, "FL", s)
				}
				d.holds(want)
				d.open(list("a b c d")[:1+there]...)
			})
		}
	}
}

// P5.2: a record of which chunks are missing isn't told, and written over by the next one.
func TestAppendHalfway(t *testing.T) {
	d := fresh(t)
	l := d.open()
	long := strings.Repeat("x", 250)
	d.Fail(4)
	d.did(l.Append([]string{"a", long}), api.ErrIO)
	l = d.open("a")
	d.tells(l, api.OK, all-1)
	d.did(l.Append(list("b")), api.OK)
	d.sector(half0+1, enc(2, 1, "FL", "b"))
	d.sector(half0+2, enc(1, 2, "", long[96:192]))
	d.open("a", "b")
}

// P5.3: the records of a Renew stand in the other half, by the new epoch, which is the base, too; the half that was is left as it is.
func TestRenew(t *testing.T) {
	d := fresh(t)
	l := d.open()
	d.did(l.Append(list("a b")), api.OK)
	long := strings.Repeat("x", 100)
	d.calls(6, func() { d.did(l.Renew([]string{"c", long}), api.OK) })
	d.tells(l, api.OK, all-3)
	d.Cut(1, 0) // all lasts
	d.Barrier()
	d.Power()
	want := map[int]string{
		0:         enc(2, 2, "FL", "1"),
		1:         enc(1, 0, "FL", "0"),
		half0:     enc(1, 0, "FL", "a"),
		half0 + 1: enc(1, 1, "FL", "b"),
		half1:     enc(2, 0, "FL", "c"),
		half1 + 1: enc(2, 1, "F", long[:96]),
		half1 + 2: enc(2, 2, "L", "xxxx"),
	}
	d.holds(want)
	d.did(l.Append(list("d")), api.OK)
	want[half1+3] = enc(2, 3, "FL", "d")
	d.holds(want)
	l = d.open("c", long, "d")
	want[1] = enc(3, 2, "FL", "1")
	d.did(l.Append(list("e")), api.OK)
	want[half1+4] = enc(3, 4, "FL", "e")
	d.holds(want)
	d.did(l.Renew(list("f")), api.OK)
	d.tells(l, api.OK, all-1)
	want[0] = enc(4, 4, "FL", "0")
	want[half0] = enc(4, 0, "FL", "f")
	d.holds(want)
	d.did(l.Renew(nil), api.OK)
	d.tells(l, api.OK, all)
	want[1] = enc(5, 5, "FL", "1")
	d.holds(want)
	d.open()
}

// P5.3: what stood in a half ahead of a Renew is told no more, also where it would go on behind what is new.
func TestRenewForgets(t *testing.T) {
	d := fresh(t)
	l := d.open()
	d.did(l.Append(list("a b c d e")), api.OK)
	d.did(l.Renew(list("x y z")), api.OK)
	d.did(l.Renew(list("f")), api.OK) // ahead of b c d e
	l = d.open("f")
	d.did(l.Append(list("g")), api.OK)
	l = d.open("f", "g")
	d.did(l.Renew(nil), api.OK)
	d.open()
}

// P5.3: 127 chunks fit, however full the half is that counts; more are refused, and nothing is written of them.
func TestRenewFull(t *testing.T) {
	cases := []struct {
		recs []string
		fits bool
	}{
		{make([]string, all), true},
		{make([]string, all+1), false},
		{[]string{strings.Repeat("x", 96*all)}, true},
		{[]string{strings.Repeat("x", 96*all+1)}, false},
		{[]string{"a", strings.Repeat("x", 96*(all-1)), ""}, false},
		{make([]string, 5000), false},
	}
	for _, c := range cases {
		d := fresh(t)
		l := d.open()
		d.did(l.Append(make([]string, all)), api.OK)
		if c.fits {
			d.calls(all+3, func() { d.did(l.Renew(c.recs), api.OK) })
			d.tells(l, api.OK, 0)
			d.open(c.recs...)
			continue
		}
		d.calls(0, func() { d.did(l.Renew(c.recs), api.ErrFull) })
		d.tells(l, api.OK, 0)
		d.did(l.Renew(list("a")), api.OK)
		d.open("a")
	}
}

// P5.3: the first error ends a Renew, whichever call it is of: two writes, a barrier, the head, a barrier.
func TestRenewFails(t *testing.T) {
	for _, f := range failures {
		for n := 1; n <= 5; n++ {
			t.Run(fmt.Sprint(f.name, n), func(t *testing.T) {
				d := fresh(t)
				l := d.open()
				d.did(l.Append(list("a")), api.OK)
				f.come(d, n)
				d.calls(n, func() { d.did(l.Renew(list("b c")), f.err) })
				d.still(l, f.err, all-1)
				there := n - 1 // how many calls were done
				if f.err == api.ErrDead {
					there = n
				}
				want := map[int]string{1: enc(1, 0, "FL", "0"), half0: enc(1, 0, "FL", "a")}
				if there >= 1 {
					want[half1] = enc(2, 0, "FL", "b")
				}
				if there >= 2 {
					want[half1+1] = enc(2, 1, "FL", "c")
				}
				recs := "a"
				if there >= 4 {
					want[0] = enc(2, 2, "FL", "1")
					recs = "b c"
				}
				d.holds(want)
				d.open(list(recs)...)
			})
		}
	}
}

// P5.3: chunks of a Renew that didn't come to its head are none of the next one's, though they lie behind its own.
func TestRenewAgain(t *testing.T) {
	d := fresh(t)
	l := d.open()
	d.did(l.Append(list("a")), api.OK)
	d.Fail(4)
	d.did(l.Renew(list("b c d")), api.ErrIO)
	l = d.open("a")
	d.did(l.Renew(list("e")), api.OK)
	d.open("e")
}

// R3: records that are handed in are not kept, those that are told not either; two logs on two disks have nothing in common.
func TestApart(t *testing.T) {
	d, other := fresh(t), fresh(t)
	l, m := d.open(), other.open()
	recs := list("a b c d")
	d.did(l.Append(recs[:2]), api.OK)
	if !slices.Equal(recs, list("a b c d")) {
		t.Errorf("recs are %q", recs)
	}
	clear(recs)
	other.did(m.Append(list("x")), api.OK)
	_, told, _ := Open(d.Disk)
	for i := range told {
		told[i] = "changed"
	}
	if told = append(told, "more"); len(told) != 3 {
		t.Error(told)
	}
	d.open("a", "b")
	other.open("x")
	d.tells(l, api.OK, all-2)
	other.tells(m, api.OK, all-1)
	d.Fail(1)
	d.did(l.Append(nil), api.ErrIO)
	other.did(m.Append(nil), api.OK)
}

// step is what a script does with a log.
type step struct {
	op   byte // a Append, r Renew, o Open
	recs []string
}

// scripts are what is cut short at each of its calls.
func scripts() [][]step {
	long := strings.Repeat("x", 200)
	return [][]step{
		{{'a', list("a b")}, {'a', list("c d e")}},
		{{'a', []string{long, "b"}}, {'a', []string{"", long}}, {'o', nil}},
		{{'a', list("a b c")}, {'r', list("d e")}, {'a', list("f")}, {'r', list("g")}, {'a', list("h i")}},
		{{'r', []string{long}}, {'o', nil}, {'r', []string{"", long}}, {'o', nil}, {'r', nil}},
		{{'o', nil}, {'a', list("a")}, {'o', nil}, {'a', nil}, {'o', nil}, {'a', []string{long, long}}},
	}
}

// may are the lists of records that may be told behind a step that was cut short.
func may(told []string, s step) [][]string {
	lists := [][]string{told}
	switch s.op {
	case 'a':
		for i := range s.recs {
			lists = append(lists, slices.Concat(told, s.recs[:i+1]))
		}
	case 'r':
		lists = append(lists, s.recs)
	}
	return lists
}

// play does steps till one goes wrong, and tells what may be told behind that.
func (d on) play(told []string, steps []step) [][]string {
	d.t.Helper()
	l, recs, err := Open(d.Disk)
	if err != api.OK {
		return [][]string{told}
	}
	d.same(recs, told)
	for _, s := range steps {
		switch s.op {
		case 'a':
			err = l.Append(s.recs)
		case 'r':
			err = l.Renew(s.recs)
		case 'o':
			l, recs, err = Open(d.Disk)
			if err == api.OK {
				d.same(recs, told)
			}
		}
		lists := may(told, s)
		if err != api.OK {
			return lists
		}
		told = lists[len(lists)-1]
	}
	return [][]string{told}
}

func (d on) same(recs, told []string) {
	d.t.Helper()
	if !slices.Equal(recs, told) {
		d.t.Fatalf("told are %.60q, want %.60q", recs, told)
	}
}

// opened opens again, which is cut short twice ahead of that, and tells the records, which must be among those that may be.
func (d on) opened(lists [][]string, keep uint64) []string {
	d.t.Helper()
	d.Power()
	for n := 1; n <= 2; n++ {
		d.Cut(n, keep)
		d.noOpen(api.ErrDead)
		d.Power()
	}
	_, told, err := Open(d.Disk)
	if err != api.OK {
		d.t.Fatalf("Open is %d", err)
	}
	if !slices.ContainsFunc(lists, func(l []string) bool { return slices.Equal(l, told) }) {
		d.t.Fatalf("told are %.60q, none of %.60q", told, lists)
	}
	d.open(told...)
	return told
}

// P5.4: wherever the power goes, and whatever of the loose sectors is kept, what may be is told; and so again, when it goes in what comes behind.
func TestPowerGoes(t *testing.T) {
	played := scripts()
	for i, steps := range played {
		for n := 1; n <= 40; n++ {
			for keep := range uint64(64) {
				d := fresh(t)
				d.Cut(n, keep)
				lists := d.play(nil, steps)
				whole := !d.Dead()
				told := d.opened(lists, keep)
				d.Cut(n, ^keep)
				lists = d.play(told, played[(i+int(keep))%len(played)])
				d.opened(lists, keep)
				if whole {
					break
				}
			}
		}
	}
}

// P5.4: the same of steps that are thrown, from a fixed seed, where a call fails now and then, too.
func TestThrown(t *testing.T) {
	r := rand.New(rand.NewSource(5))
	for range 3000 {
		d := fresh(t)
		var told []string
		for range 4 {
			var steps []step
			for range 1 + r.Intn(5) {
				s := step{op: "aaro"[r.Intn(4)]}
				for range r.Intn(5) {
					s.recs = append(s.recs, strings.Repeat(string(rune('a'+r.Intn(26))), r.Intn(3)*r.Intn(120)))
				}
				steps = append(steps, s)
			}
			d.Fail(r.Intn(60))
			d.Cut(r.Intn(40), r.Uint64())
			lists := d.play(told, steps)
			d.Fail(0)
			d.Cut(0, 0)
			told = d.opened(lists, r.Uint64())
		}
	}
}

// P5.4: records that were appended are told in their order, by each Open behind it.
func TestAllLasts(t *testing.T) {
	d := fresh(t)
	var want []string
	for i := range all {
		l := d.open(want...)
		d.tells(l, api.OK, all-i)
		want = append(want, fmt.Sprint(i))
		d.did(l.Append(want[i:]), api.OK)
	}
	l := d.open(want...)
	d.did(l.Append(list("x")), api.ErrFull)
	d.did(l.Renew(want[100:]), api.OK)
	d.open(want[100:]...)
}

package disk

import (
	"fmt"
	"math"
	"strings"
	"testing"

	"cubby/api"
)

// on is a disk, and the test that asks it.
type on struct {
	*Disk
	t *testing.T
}

func fresh(t *testing.T) on { return on{New(), t} }

func (d on) write(i int, s string, want api.Errno) {
	d.t.Helper()
	if err := d.Write(i, s); err != want {
		d.t.Errorf("Write(%d, %.9q) is %d, want %d", i, s, err, want)
	}
}

// puts writes sectors, each with the text.
func (d on) puts(s string, sectors ...int) {
	d.t.Helper()
	for _, i := range sectors {
		d.write(i, s, api.OK)
	}
}

func (d on) barrier(want api.Errno) {
	d.t.Helper()
	if err := d.Barrier(); err != want {
		d.t.Errorf("Barrier() is %d, want %d", err, want)
	}
}

func (d on) read(i int, want string) {
	d.t.Helper()
	if s, err := d.Read(i); s != want || err != api.OK {
		d.t.Errorf("Read(%d) is %.9q, %d, want %.9q", i, s, err, want)
	}
}

func (d on) noRead(i int, want api.Errno) {
	d.t.Helper()
	if s, err := d.Read(i); s != "" || err != want {
		d.t.Errorf("Read(%d) is %.9q, %d, want error %d", i, s, err, want)
	}
}

// reads reads sectors 0, 1 and so on, of one byte each or none (-).
func (d on) reads(texts string) {
	d.t.Helper()
	for i, c := range texts {
		d.read(i, strings.Trim(string(c), "-"))
	}
}

func (d on) dead(want bool) {
	d.t.Helper()
	if d.Dead() != want {
		d.t.Errorf("Dead() is %v, want %v", d.Dead(), want)
	}
}

func (d on) counted(want int) {
	d.t.Helper()
	if d.Calls() != want {
		d.t.Errorf("Calls() is %d, want %d", d.Calls(), want)
	}
}

// falls lets the power go at a barrier, and come again.
func (d on) falls(keep uint64) {
	d.t.Helper()
	d.Cut(1, keep)
	d.barrier(api.ErrDead)
	d.Power()
}

// noSectors are numbers of which there is no sector.
func noSectors() []int {
	return []int{-1, -2, api.Sectors, api.Sectors + 1, -api.Sectors, math.MinInt, math.MaxInt}
}

const long = api.Sector + 1

// The chapter's example.
func TestExample(t *testing.T) {
	d := fresh(t)
	d.write(0, "a", api.OK)
	d.barrier(api.OK)
	d.write(0, "b", api.OK)
	d.write(1, "c", api.OK)
	d.Cut(1, 2)
	d.barrier(api.ErrDead)
	d.Power()
	d.read(0, "a")
	d.read(1, "c")
}

// At first all sectors are empty, none is loose, the power is on, and there was no call.
func TestNew(t *testing.T) {
	d := fresh(t)
	d.dead(false)
	d.counted(0)
	for i := range api.Sectors {
		d.read(i, "")
	}
	d.counted(0)
	d.barrier(api.OK)
}

// P3.1: a sector has the text that was written last, the others theirs.
func TestWriteRead(t *testing.T) {
	d := fresh(t)
	texts := []string{
		"", "a", "\x00", "\xff\x80", "\xc3", "line\n", strings.Repeat("x", api.Sector-1),
		strings.Repeat("\x00", api.Sector), strings.Repeat("\xff", api.Sector), strings.Repeat("é", api.Sector/2),
	}
	for _, i := range []int{0, 1, 100, api.Sectors - 2, api.Sectors - 1} {
		for _, s := range texts {
			d.write(i, s, api.OK)
			d.read(i, s)
			d.read(i, s)
		}
		d.write(i, "behind", api.OK)
	}
	for i := range api.Sectors {
		switch i {
		case 0, 1, 100, api.Sectors - 2, api.Sectors - 1:
			d.read(i, "behind")
		default:
			d.read(i, "")
		}
	}
}

// P3.1: each sector stands by itself.
func TestAllSectors(t *testing.T) {
	d := fresh(t)
	for i := range api.Sectors {
		d.write(i, fmt.Sprint(i), api.OK)
	}
	for i := range api.Sectors {
		d.read(i, fmt.Sprint(i))
	}
	d.barrier(api.OK)
	for i := range api.Sectors {
		d.read(i, fmt.Sprint(i))
	}
}

// P3.1: what may not be is refused, the sector ahead of the text, and changes nothing.
func TestRefused(t *testing.T) {
	d := fresh(t)
	for _, i := range noSectors() {
		d.write(i, "", api.ErrSector)
		d.write(i, "a", api.ErrSector)
		d.write(i, strings.Repeat("x", long), api.ErrSector)
		d.noRead(i, api.ErrSector)
	}
	d.write(0, "a", api.OK)
	for _, i := range []int{0, 1, api.Sectors - 1} {
		d.write(i, strings.Repeat("x", long), api.ErrSize)
		d.write(i, strings.Repeat("x", 5000), api.ErrSize)
		d.write(i, strings.Repeat("é", api.Sector/2+1), api.ErrSize)
	}
	d.read(0, "a")
	d.read(1, "")
	d.read(api.Sectors-1, "")
	d.counted(1)
}

// P3.1, P3.2: while the power is off everything is refused for that ahead of all else, and changes nothing.
func TestRefusedInTheDark(t *testing.T) {
	d := fresh(t)
	d.puts("a", 0)
	d.Cut(1, 1)
	d.barrier(api.ErrDead)
	for _, i := range append(noSectors(), 0, 1, api.Sectors-1) {
		d.write(i, "b", api.ErrDead)
		d.write(i, strings.Repeat("x", long), api.ErrDead)
		d.noRead(i, api.ErrDead)
	}
	d.barrier(api.ErrDead)
	d.dead(true)
	d.counted(2)
	d.Power()
	d.reads("a--")
	d.counted(2)
}

// Calls: what was done, what failed and what the power went with; neither a Read nor what was refused.
func TestCalls(t *testing.T) {
	d := fresh(t)
	d.write(0, "a", api.OK)
	d.counted(1)
	d.write(0, "a", api.OK)
	d.counted(2)
	d.barrier(api.OK)
	d.barrier(api.OK)
	d.counted(4)
	d.Read(0)
	d.Read(-1)
	d.Write(-1, "a")
	d.Write(api.Sectors, "a")
	d.Write(0, strings.Repeat("x", long))
	d.Power()
	d.Dead()
	d.Cut(0, 0)
	d.Calls()
	d.counted(4)
	d.Fail(1)
	d.counted(4)
	d.write(0, "b", api.ErrIO)
	d.counted(5)
	d.Fail(1)
	d.barrier(api.ErrIO)
	d.counted(6)
	d.Cut(1, 0)
	d.write(0, "b", api.ErrDead)
	d.counted(7)
	d.write(0, "b", api.ErrDead)
	d.barrier(api.ErrDead)
	d.counted(7)
	d.Power()
	d.counted(7)
	d.falls(0)
	d.counted(8)
}

// P3.2: behind a barrier that was OK nothing is loose.
func TestBarrier(t *testing.T) {
	d := fresh(t)
	d.puts("a", 0, 1)
	d.barrier(api.OK)
	d.reads("aa-")
	d.falls(0)
	d.reads("aa-")
	d.puts("b", 1, 2)
	d.barrier(api.OK)
	d.puts("c", 2)
	d.falls(0)
	d.reads("abb")
}

// P3.2: a barrier that failed, or that the power went with, makes nothing last.
func TestBarrierInVain(t *testing.T) {
	d := fresh(t)
	d.puts("a", 0)
	d.barrier(api.OK)
	d.puts("b", 0)
	d.Fail(1)
	d.barrier(api.ErrIO)
	d.reads("b")
	d.falls(0)
	d.reads("a")

	d.puts("b", 0)
	d.Fail(1)
	d.barrier(api.ErrIO)
	d.barrier(api.OK)
	d.falls(0)
	d.reads("b")
}

// P3.2: loose sectors are counted anew behind a barrier.
func TestBarrierOrder(t *testing.T) {
	d := fresh(t)
	d.puts("a", 0, 1, 2)
	d.barrier(api.OK)
	d.puts("b", 2, 0, 1)
	d.falls(1)
	d.reads("aab")
}

// P3.3: the power goes at the n-th call from now on, be it a Write or a Barrier.
func TestCutAt(t *testing.T) {
	for n := 1; n <= 6; n++ {
		d := fresh(t)
		d.puts("a", 9)
		d.barrier(api.OK)
		d.Cut(n, math.MaxUint64)
		for i := 1; i < n; i++ {
			d.write(i, "b", api.OK)
			d.dead(false)
		}
		d.write(n, "b", api.ErrDead)
		d.dead(true)
		d.counted(n + 2)
		d.Power()
		d.dead(false)
		for i := 1; i < 8; i++ {
			d.read(i, strings.Repeat("b", min(max(n-i+1, 0), 1)))
		}

		d = fresh(t)
		d.Cut(n, 0)
		for range n - 1 {
			d.barrier(api.OK)
		}
		d.dead(false)
		d.barrier(api.ErrDead)
		d.dead(true)
		d.counted(n)
	}
}

// P3.3: below 1 the power never goes, nor does it at a call that does not come.
func TestCutNever(t *testing.T) {
	for _, n := range []int{0, -1, -2, math.MinInt, math.MaxInt} {
		d := fresh(t)
		d.Cut(n, 0)
		for i := range 300 {
			d.write(i%api.Sectors, "a", api.OK)
			d.barrier(api.OK)
		}
		d.dead(false)
	}
}

// P3.3: what was asked for last holds, from then on.
func TestCutAgain(t *testing.T) {
	for _, n := range []int{0, -1, math.MinInt} {
		d := fresh(t)
		d.Cut(1, 0)
		d.Cut(n, 0)
		d.barrier(api.OK)
		d.barrier(api.OK)
		d.dead(false)
	}
	d := fresh(t)
	d.Cut(3, 1)
	d.puts("a", 0, 1)
	d.Cut(2, 2)
	d.puts("a", 2)
	d.barrier(api.ErrDead)
	d.Power()
	d.reads("-a--")
}

// P3.3: neither a Read nor what was refused is a call that the power goes with.
func TestCutNoCall(t *testing.T) {
	d := fresh(t)
	d.Cut(1, 0)
	d.Fail(2)
	for range 3 {
		d.read(0, "")
		d.noRead(-1, api.ErrSector)
		d.write(-1, "a", api.ErrSector)
		d.write(api.Sectors, "a", api.ErrSector)
		d.write(0, strings.Repeat("x", long), api.ErrSize)
		d.Power()
		d.dead(false)
	}
	d.write(0, "a", api.ErrDead)
}

// P3.3: the power goes once.
func TestCutOnce(t *testing.T) {
	d := fresh(t)
	d.Cut(1, 1)
	d.write(0, "a", api.ErrDead)
	d.Power()
	for range 5 {
		d.write(0, "b", api.OK)
		d.barrier(api.OK)
	}
	d.reads("b")
}

// P3.3: the k-th loose sector is kept by bit k: in the order in which they became loose, not by their numbers, not as they were written last.
func TestCutKeeps(t *testing.T) {
	for keep := range uint64(8) {
		d := fresh(t)
		d.puts("a", 0, 1, 2, 3)
		d.barrier(api.OK)
		d.puts("b", 2, 0, 3)
		d.puts("c", 0, 2)
		d.falls(keep)
		for k, x := range []struct {
			i int
			s string
		}{{2, "c"}, {0, "c"}, {3, "b"}} {
			if keep>>k&1 == 0 {
				x.s = "a"
			}
			d.read(x.i, x.s)
		}
		d.read(1, "a")
	}
}

// P3.3: the sector that the power goes with is loose, too: the last one, or where it was.
func TestCutWrite(t *testing.T) {
	for _, x := range []struct {
		keep       uint64
		i          int
		want, kind string
	}{
		{0, 2, "aaa", "new"}, {1, 2, "baa", "new"}, {2, 2, "aba", "new"}, {4, 2, "aac", "new"}, {7, 2, "bbc", "new"},
		{0, 0, "aaa", "loose"}, {1, 0, "caa", "loose"}, {2, 0, "aba", "loose"}, {4, 0, "aaa", "loose"}, {3, 0, "cba", "loose"},
	} {
		d := fresh(t)
		d.puts("a", 0, 1, 2)
		d.barrier(api.OK)
		d.puts("b", 0, 1)
		d.Cut(1, x.keep)
		d.write(x.i, "c", api.ErrDead)
		d.Power()
		d.reads(x.want)
	}
}

// P3.3: what lasts of a sector is what it was ahead of all that was written since the barrier, be it nothing.
func TestCutLasts(t *testing.T) {
	d := fresh(t)
	d.puts("a", 0)
	d.barrier(api.OK)
	for _, s := range []string{"b", "", "c", "b"} {
		d.puts(s, 0, 1)
	}
	d.falls(0)
	d.reads("a-")
	for _, s := range []string{"b", "c", ""} {
		d.puts(s, 0, 1)
	}
	d.falls(1)
	d.reads("--")
}

// P3.3: the bits go round: 64 loose sectors, and more.
func TestCutManyLoose(t *testing.T) {
	for _, keep := range []uint64{0, 1, 1 << 63, 1<<63 | 2, 0xaaaaaaaaaaaaaaaa, 0xfedcba9876543210, math.MaxUint64} {
		for _, many := range []int{63, 64, 65, 66, 128, 129, api.Sectors} {
			d := fresh(t)
			for k := range many {
				d.write(api.Sectors-1-k, "a", api.OK)
			}
			d.falls(keep)
			for k := range api.Sectors {
				want := ""
				if k < many && keep&(1<<(k%64)) != 0 {
					want = "a"
				}
				d.read(api.Sectors-1-k, want)
			}
		}
	}
}

// P3.3: behind a power that went none is loose: what was kept lasts, and the order begins anew.
func TestCutThenNoneLoose(t *testing.T) {
	d := fresh(t)
	d.puts("a", 0, 1)
	d.falls(1)
	d.reads("a--")
	d.falls(0)
	d.reads("a--")
	d.puts("b", 2, 0)
	d.falls(1)
	d.reads("a-b")
}

// P3.3: Power turns it on, and calls off what was to come; if it is on, it does nothing.
func TestPower(t *testing.T) {
	d := fresh(t)
	d.puts("a", 0)
	d.Cut(3, 0)
	d.Fail(1)
	d.Power()
	d.dead(false)
	d.barrier(api.ErrIO)
	d.Power()
	d.puts("b", 1)
	d.Power()
	d.barrier(api.ErrDead)
	d.dead(true)

	d.Cut(1, 0)
	d.Fail(2)
	d.dead(true)
	d.Power()
	d.dead(false)
	d.Power()
	d.dead(false)
	d.reads("--")
	d.puts("c", 0, 1, 2)
	d.barrier(api.OK)
	d.dead(false)
}

// P3.3: a failure that was to come behind the power's going is called off.
func TestPowerCallsOffFail(t *testing.T) {
	d := fresh(t)
	d.Fail(2)
	d.Cut(1, 0)
	d.barrier(api.ErrDead)
	d.Power()
	d.barrier(api.OK)
	d.barrier(api.OK)
}

// P3.4: the n-th call fails, that one alone: nothing is written, nothing becomes loose or ceases to be.
func TestFail(t *testing.T) {
	for n := 1; n <= 5; n++ {
		d := fresh(t)
		d.Fail(n)
		for i := 1; i <= 7; i++ {
			want := api.OK
			if i == n {
				want = api.ErrIO
			}
			d.write(i, "a", want)
			d.dead(false)
		}
		for i := 1; i <= 7; i++ {
			d.read(i, strings.Repeat("a", min((n-i)*(n-i), 1)))
		}
		d.counted(7)
	}
}

// P3.4: a Write that failed leaves the sector's text, its place among the loose ones, and what lasts of it.
func TestFailWrite(t *testing.T) {
	d := fresh(t)
	d.puts("a", 0, 1, 2)
	d.barrier(api.OK)
	d.puts("b", 0)
	d.Fail(1)
	d.write(0, "c", api.ErrIO)
	d.Fail(1)
	d.write(1, "c", api.ErrIO)
	d.reads("baa")
	d.puts("d", 2)
	d.falls(2)
	d.reads("aad")
}

// P3.4: below 1 none fails; what was asked for last holds.
func TestFailNever(t *testing.T) {
	for _, n := range []int{0, -1, -2, math.MinInt, math.MaxInt} {
		d := fresh(t)
		d.Fail(1)
		d.Fail(n)
		for i := range 300 {
			d.write(i%api.Sectors, "a", api.OK)
			d.barrier(api.OK)
		}
	}
	d := fresh(t)
	d.Fail(1)
	d.Fail(2)
	d.barrier(api.OK)
	d.barrier(api.ErrIO)
	d.barrier(api.OK)
}

// P3.4: neither a Read nor what was refused is the call that fails.
func TestFailNoCall(t *testing.T) {
	d := fresh(t)
	d.Fail(1)
	for range 3 {
		d.read(0, "")
		d.noRead(api.Sectors, api.ErrSector)
		d.write(-1, "a", api.ErrSector)
		d.write(0, strings.Repeat("x", long), api.ErrSize)
	}
	d.write(0, "a", api.ErrIO)
	d.write(0, "a", api.OK)
}

// P3.4: if the power is to go with the same call, it goes, and the call is done; a call that fails is one on the way to it.
func TestFailAndCut(t *testing.T) {
	for n := 1; n <= 3; n++ {
		for _, first := range []func(on){func(d on) { d.Cut(n, 1) }, func(d on) { d.Fail(n) }} {
			d := fresh(t)
			first(d)
			d.Cut(n, math.MaxUint64)
			d.Fail(n)
			for range n - 1 {
				d.puts("a", 0)
			}
			d.write(0, "b", api.ErrDead)
			d.Power()
			d.reads("b")
			d.puts("c", 0)
		}
	}
	d := fresh(t)
	d.puts("a", 0)
	d.Fail(1)
	d.Cut(1, 0)
	d.barrier(api.ErrDead)
	d.dead(true)

	d = fresh(t)
	d.Cut(2, 1)
	d.Fail(1)
	d.write(0, "a", api.ErrIO)
	d.write(1, "b", api.ErrDead)
	d.Power()
	d.reads("-b")
}

// R3: two disks have nothing in common.
func TestDisksApart(t *testing.T) {
	a, b := fresh(t), fresh(t)
	a.puts("a", 0, 1)
	b.puts("b", 1, 2)
	a.Cut(1, 0)
	a.Fail(2)
	b.barrier(api.OK)
	b.barrier(api.OK)
	b.counted(4)
	a.counted(2)
	a.barrier(api.ErrDead)
	b.dead(false)
	b.reads("-bb")
	a.Power()
	a.reads("---")
}

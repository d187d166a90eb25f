package disk

import (
	"fmt"
	"slices"
	"testing"

	"cubby/api"
)

// few is how many sectors are gone about with.
const few = 5

// dice throws numbers, the same ones for the same seed.
type dice uint64

func (d *dice) throw(n int) int {
	*d = *d*6364136223846793005 + 1442695040888963407
	return int(*d >> 33 % dice(n))
}

// past is, of each sector, what it had at the last barrier, or when the power came, and all it had since.
type past [few][]string

// settle leaves of each sector the last text alone.
func (p *past) settle() {
	for i, had := range p {
		p[i] = had[len(had)-1:]
	}
}

// P3.5: whatever is written, whatever fails and whenever the power goes: what was ahead of a barrier that was OK lasts, and each sector has a text that it had since, or had then.
func TestWhatFollows(t *testing.T) {
	for seed := range dice(300) {
		d, roll, p := New(), seed, past{}
		for i := range p {
			p[i] = []string{""}
		}
		for step := range 200 {
			p.goOn(t, d, &roll, fmt.Sprint(step))
			if t.Failed() {
				t.Fatalf("seed %d, step %d", seed, step)
			}
		}
	}
}

// goOn takes one step, and looks whether it may have come to that.
func (p *past) goOn(t *testing.T, d *Disk, roll *dice, text string) {
	switch roll.throw(12) {
	case 0:
		d.Cut(roll.throw(9)-1, uint64(roll.throw(1<<few)))
	case 1:
		d.Fail(roll.throw(5) - 1)
	case 2, 3:
		if d.Barrier() == api.OK {
			p.settle()
		}
	default:
		i := roll.throw(few)
		if err := d.Write(i, text); err == api.OK || err == api.ErrDead {
			p[i] = append(p[i], text)
		}
	}
	dark := d.Dead()
	d.Power()
	for i, had := range p {
		s, err := d.Read(i)
		may := had[len(had)-1:]
		if dark {
			may = had
		}
		if err != api.OK || !slices.Contains(may, s) {
			t.Errorf("Read(%d) is %q, %d, want one of %q", i, s, err, may)
		}
		if dark {
			p[i] = []string{s}
		}
	}
}

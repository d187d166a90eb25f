package keep

import (
	"maps"
	"math/rand"
	"slices"
	"strings"
	"testing"

	"cubby/api"
	"cubby/log"
)

type values = map[string]string

// after is vals once recs are taken.
func after(vals values, recs []api.Record) values {
	then := maps.Clone(vals)
	apply(then, recs)
	return then
}

// valuesOf is what s tells.
func valuesOf(s *Store) values {
	vals := values{}
	for _, key := range s.Keys() {
		vals[key], _ = s.Get(key)
	}
	return vals
}

// opened opens again, which is cut short twice ahead of that, and tells the values, which must be among those that may be.
func (d on) opened(keep uint64, may ...values) values {
	d.t.Helper()
	d.Power()
	for n := 1; n <= 2; n++ {
		d.Cut(n, keep)
		d.noOpen(most, api.ErrDead)
		d.Power()
	}
	s, err := Open(d.Disk, most)
	if err != api.OK {
		d.t.Fatalf("Open is %d", err)
	}
	vals := valuesOf(s)
	if !slices.ContainsFunc(may, func(m values) bool { return maps.Equal(m, vals) }) {
		d.t.Fatalf("told are %.80q, none of %.200q", vals, may)
	}
	d.has(s, api.OK, vals)
	return vals
}

// play puts into a new store, one behind the other, till one goes wrong, and tells which values may be there behind that.
func (d on) play(vals values, puts [][]api.Record) []values {
	d.t.Helper()
	s, err := Open(d.Disk, most)
	if err != api.OK {
		return []values{vals}
	}
	d.has(s, api.OK, vals)
	for _, recs := range puts {
		then := after(vals, recs)
		if err := s.Put(recs); err != api.OK {
			d.has(s, err, vals)
			return []values{vals, then}
		}
		vals = then
		d.has(s, api.OK, vals)
	}
	return []values{vals}
}

// scripts are what is cut short at each of its calls: records by words, where X is a value of three chunks.
func scripts() [][][]api.Record {
	x := strings.Repeat("x", 250)
	var all [][][]api.Record
	for _, script := range []string{
		"a=1 b=2; b c=3; a=2; a b c",
		"a=X b=1; a=1 b=X; b c=X d=X; a=1",
		"a=1 b=X; ; a; a=2 a=1 c=X; b=2 d; d=5 b c",
	} {
		var puts [][]api.Record
		for words := range strings.SplitSeq(script, ";") {
			puts = append(puts, list(strings.ReplaceAll(words, "X", x)))
		}
		all = append(all, puts)
	}
	return all
}

// scripted runs f with each script and with disks whose logs are empty, or soon full, so that a Renew comes.
func scripted(t *testing.T, f func(i int, puts [][]api.Record, made func() on)) {
	for i, puts := range scripts() {
		for _, places := range []int{127, 10, 5, 2, 1, 0} {
			f(i, puts, func() on {
				d := fresh(t)
				d.logged(make([]string, 127-places)...)
				return d
			})
		}
	}
}

// P6.3: wherever the power goes, and whatever of the loose sectors is kept, all of a Put is there, or nothing; and so again, when it goes in what comes behind.
func TestPowerGoes(t *testing.T) {
	played := scripts()
	scripted(t, func(i int, puts [][]api.Record, made func() on) {
		whole := false
		for n := 1; !whole; n++ {
			for _, keep := range []uint64{0, 1, 2, 3, 4, 5, 6, 7, 8, 1 << 5, ^uint64(0)} {
				d := made()
				d.Cut(n, keep)
				may := d.play(values{}, puts)
				whole = !d.Dead()
				vals := d.opened(keep, may...)
				d.Cut(n, ^keep)
				may = d.play(vals, played[(i+n)%len(played)])
				d.opened(keep, may...)
			}
		}
	})
}

// P6.3: a call of the disk that fails, wherever, leaves all of a Put, or nothing.
func TestCallFails(t *testing.T) {
	scripted(t, func(_ int, puts [][]api.Record, made func() on) {
		whole := false
		for n := 1; !whole; n++ {
			d := made()
			ahead := d.Calls()
			d.Fail(n)
			may := d.play(values{}, puts)
			whole = d.Calls()-ahead < n
			d.opened(0, may...)
		}
	})
}

// model is a store by the chapter's words: a map, and a log on a disk of its own.
type model struct {
	on
	vals values
	room int
	log  *log.Log
}

func bytesOf(vals values) int {
	n := 0
	for key, value := range vals {
		n += len(key) + len(value)
	}
	return n
}

func (m *model) put(recs []api.Record) api.Errno {
	if err := m.log.Err(); err != api.OK {
		return err
	}
	for _, x := range recs {
		if x.Kind != api.Put && x.Kind != api.Del {
			return api.ErrArg
		}
	}
	then := after(m.vals, recs)
	if maps.Equal(then, m.vals) {
		return api.OK
	}
	if n := bytesOf(then); n > m.room && n > bytesOf(m.vals) {
		return api.ErrFull
	}
	err := m.log.Append([]string{bat(recs)})
	if err == api.ErrFull {
		var whole []api.Record
		for _, key := range slices.Sorted(maps.Keys(then)) {
			whole = append(whole, put(key, then[key]))
		}
		err = m.log.Renew([]string{bat(whole)})
	}
	if err == api.OK {
		m.vals = then
	}
	return err
}

// throw throws records: few keys, among them twins, values of all lengths, now and then one of no kind.
func throw(r *rand.Rand) []api.Record {
	keys := []string{"", "a", "b", "ab", "\xff", twin, twin2, "k1", "k2", "k3"}
	var recs []api.Record
	for range r.Intn(5) {
		x := del(keys[r.Intn(len(keys))])
		if r.Intn(3) > 0 {
			x = put(x.Key, strings.Repeat(string(rune('a'+r.Intn(3))), r.Intn(4)*r.Intn(4)*r.Intn(300)))
		}
		if r.Intn(60) == 0 {
			x.Kind = 5
		}
		recs = append(recs, x)
	}
	return recs
}

// P6.1, P6.2, P6.3: of what is thrown from a fixed seed a store answers, tells and writes what the chapter's words say, whatever fails and whenever the power goes.
func TestThrown(t *testing.T) {
	r := rand.New(rand.NewSource(6))
	answers := map[api.Errno]int{}
	for range 200 {
		d, m := fresh(t), &model{on: fresh(t), vals: values{}}
		for range 5 {
			m.room = []int{0, 50, 1000, 5000, most}[r.Intn(5)]
			d.goesAs(m, r, answers)
			if t.Failed() {
				return
			}
		}
	}
	for _, err := range []api.Errno{api.OK, api.ErrArg, api.ErrFull, api.ErrIO, api.ErrDead} {
		if answers[err] < 20 {
			t.Errorf("no more than %d answers are %d", answers[err], err)
		}
	}
}

// goesAs opens a store on d and m anew, and throws records at both, till one of them goes wrong; then m has what the next Open may tell.
func (d on) goesAs(m *model, r *rand.Rand, answers map[api.Errno]int) {
	d.t.Helper()
	s := d.openIn(m.room, words(m.vals))
	l, _, err := log.Open(m.Disk)
	if err != api.OK {
		d.t.Fatalf("no log, %d", err)
	}
	m.log = l
	cut, keep, fail := r.Intn(200), r.Uint64(), r.Intn(400)
	for _, x := range []on{d, m.on} {
		x.Cut(cut, keep)
		x.Fail(fail)
	}
	var recs []api.Record
	for m.log.Err() == api.OK && r.Intn(60) > 0 {
		recs = throw(r)
		err := m.put(recs)
		d.did(s.Put(recs), err)
		d.has(s, m.log.Err(), m.vals)
		answers[err]++
	}
	d.settle(m, recs)
}

// settle turns the power of both disks on, holds them against each other, and makes of m's values those that are there, behind a Put that went wrong or not.
func (d on) settle(m *model, recs []api.Record) {
	d.t.Helper()
	may := []values{m.vals}
	if m.log.Err() != api.OK {
		may = append(may, after(m.vals, recs))
	}
	for _, x := range []on{d, m.on} {
		x.Power()
		x.Cut(0, 0)
		x.Fail(0)
	}
	d.holds(m.on)
	m.vals = d.opened(1, may...)
	m.opened(1, m.vals)
}

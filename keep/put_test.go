package keep

import (
	"fmt"
	"math"
	"strings"
	"testing"

	"cubby/api"
	"cubby/log"
)

// places is how many places of the log a batch needs.
func places(batch string) int { return (len(batch) + 95) / 96 }

// P6.2: recs are appended as one batch, all of them, as they are, in their order.
func TestPutBatch(t *testing.T) {
	long := strings.Repeat("x", 200)
	cases := []struct {
		recs []api.Record
		want string // as bytes
	}{
		{list("a=1"), "\x01\x05\x01\x01a\x011"},
		{list("a=1 b=2"), "\x02\x05\x01\x01a\x011\x05\x01\x01b\x012"},
		{list("b=2 a=1"), "\x02\x05\x01\x01b\x012\x05\x01\x01a\x011"},
		{list("a=1 a=2 c a z"), "\x05\x05\x01\x01a\x011\x05\x01\x01a\x012\x03\x02\x01c\x03\x02\x01a\x03\x02\x01z"},
		{list("k= k"), "\x02\x04\x01\x01k\x00\x03\x02\x01k"},
		{list("="), "\x01\x03\x01\x00\x00"},
		{[]api.Record{{Kind: api.Del, Key: "k", Value: "no matter"}, put("a", "")}, "\x02\x03\x02\x01k\x04\x01\x01a\x00"},
		{[]api.Record{put("\x00\xff", "\x80")}, "\x01\x06\x01\x02\x00\xff\x01\x80"},
		{[]api.Record{put("k", long)}, "\x01\xcd\x01\x01\x01k\xc8\x01" + long},
		{make([]api.Record, 0), ""},
	}
	for _, c := range cases {
		d := fresh(t)
		s := d.open("")
		d.did(s.Put(list("k=0 z=9")), api.OK)
		d.did(s.Put(c.recs), api.OK)
		want := []string{bat(list("k=0 z=9"))}
		if c.want != "" {
			want = append(want, c.want)
		}
		d.records(127-1-places(c.want), want...)
	}
	var many []api.Record
	for i := range 300 {
		many = append(many, put(fmt.Sprint("k", i), "v"))
	}
	d := fresh(t)
	s := d.open("")
	d.did(s.Put(many), api.OK)
	d.records(127-places(bat(many)), bat(many))
}

// P6.2: a Put is the write of its batch's chunks and a barrier, and what it wrote lasts.
func TestPutLasts(t *testing.T) {
	d := fresh(t)
	s := d.open("")
	d.calls(2, func() { d.did(s.Put(list("a=1 b=2")), api.OK) })
	d.calls(4, func() { d.did(s.Put([]api.Record{put("c", strings.Repeat("x", 200))}), api.OK) })
	d.calls(2, func() { d.did(s.Put(list("a c")), api.OK) })
	d.Cut(1, 0) // all lasts
	d.Barrier()
	d.Power()
	d.open("b=2")
}

// P6.2: where the map stays what it is nothing is done: there is no call, and room is not asked for.
func TestPutNothing(t *testing.T) {
	for _, room := range []int{0, 3, most} {
		d := fresh(t)
		d.logged(bat(list("a=1 b=2 e= =v")))
		s := d.openIn(room, "a=1 b=2 e= =v")
		for _, recs := range [][]api.Record{
			nil, {}, list("a=1"), list("b=2 a=1"), list("c"), list("c d c"), list("e="), list("=v"),
			list("a=2 a=1"), list("a a=1"), list("a b e b=2 e= a=1"), list("c=3 c"), list("c=3 d=4 c d"),
			list("a=123456789 a=1"), {{Kind: api.Del, Key: "c", Value: "v"}}, {del("c"), put("", ""), put("", "v")},
			{put("long", strings.Repeat("x", 20000)), del("long")},
		} {
			d.calls(0, func() { d.did(s.Put(recs), api.OK) })
			d.tells(s, api.OK, "a=1 b=2 e= =v")
		}
		d.records(126, bat(list("a=1 b=2 e= =v")))
	}
}

// P6.2: what changes the map by no byte is no nothing.
func TestPutOfNoBytes(t *testing.T) {
	d := fresh(t)
	s := d.openIn(0, "")
	d.calls(2, func() { d.did(s.Put(list("=")), api.OK) })
	d.tells(s, api.OK, "=")
	d.calls(0, func() { d.did(s.Put(list("=")), api.OK) })
	s = d.openIn(0, "=")
	d.calls(2, func() { d.did(s.Put([]api.Record{del("")}), api.OK) })
	d.tells(s, api.OK, "")
	d.records(125, "\x01\x03\x01\x00\x00", "\x01\x02\x02\x00")

	d = fresh(t)
	s = d.open("")
	d.did(s.Put(list("ab=1")), api.OK)
	d.calls(2, func() { d.did(s.Put(list("ab=2")), api.OK) })
	d.calls(2, func() { d.did(s.Put(list("ab a=b2")), api.OK) })
	d.open("a=b2")
}

// wrongKinds are kinds of which there is no record.
func wrongKinds() []int { return []int{0, 3, -1, 4, 256 + 1, 1<<32 + 1, math.MinInt, math.MaxInt} }

// P6.2: a record that is neither Put nor Del, wherever it stands, whatever the others would do.
func TestPutWrongKind(t *testing.T) {
	d := fresh(t)
	s := d.openIn(4, "")
	d.did(s.Put(list("a=1")), api.OK)
	for _, kind := range wrongKinds() {
		for _, recs := range [][]api.Record{
			{{Kind: kind}},
			{{Kind: kind, Key: "a", Value: "1"}},
			{{Kind: kind, Key: "a", Value: "2"}},
			{{Kind: kind, Key: "b", Value: "too long"}},
			{put("a", "1"), {Kind: kind}},
			{put("a", "2"), {Kind: kind}, put("a", "3")},
			{put("a", "2"), {Kind: kind, Key: "a"}, put("a", "1")},
			{put("b", "too long"), {Kind: kind}},
			{put("b", strings.Repeat("x", 20000)), {Kind: kind, Key: "b"}},
			{{Kind: kind, Key: "a"}, del("a")},
		} {
			d.calls(0, func() { d.did(s.Put(recs), api.ErrArg) })
			d.tells(s, api.OK, "a=1")
		}
	}
	d.did(s.Put(list("a=2")), api.OK)
	d.open("a=2")
}

// P6.2: ErrFull, if the bytes were above room and above what they are; else they may be above it, too.
func TestPutRoom(t *testing.T) {
	cases := []struct {
		room   int
		ahead  string
		recs   string
		behind string // - if it is refused
	}{
		{3, "", "k=12", "k=12"},
		{3, "", "k=123", "-"},
		{3, "", "abcd=", "-"},
		{0, "", "k=", "-"},
		{0, "", "=v", "-"},
		{5, "a=1", "b=23", "a=1 b=23"},
		{5, "a=1", "b=234", "-"},
		{5, "a=12", "a=1234", "a=1234"},
		{5, "a=12", "a=12345", "-"},
		{5, "a=12 b=3", "a b=1234", "b=1234"},
		{5, "a=12 b=3", "b=1234 a", "b=1234"}, // only what comes of all counts
		{5, "a=12", "b=123456789 b", "a=12"},
		{5, "a=12", "b=123456789 b a=34", "a=34"},
		{5, "a=12 b=3", "c=", "-"},
		{5, "a=12 b=3", "c=4 d", "-"},
		{5, "a=12 b=3", "c=4 b", "a=12 c=4"},
		{3, "a=1234 b=5", "a", "b=5"},
		{3, "a=1234 b=5", "b", "a=1234"}, // above room, but less than it was
		{3, "a=1234 b=5", "a=123", "a=123 b=5"},
		{3, "a=1234 b=5", "a=4321", "a=4321 b=5"}, // as much as it was
		{3, "a=1234 b=5", "c=1234 a", "b=5 c=1234"},
		{3, "a=1234 b=5", "a=12345", "-"},
		{3, "a=1234 b=5", "a=12345 b", "a=12345"},
		{3, "a=1234 b=5", "a=12345 b=", "a=12345 b="},
		{3, "a=1234 b=5", "a=123456 b=", "-"},
		{3, "a=1234 b=5", "c=", "-"},
		{0, "a=1", "=", "= a=1"},
		{0, "a=1", "a", ""},
		{0, "a=1", "b=1", "-"},
		{0, "a=1", "b=2 a", "b=2"},
	}
	for _, c := range cases {
		t.Run(fmt.Sprint(c.room, c.ahead, "; ", c.recs), func(t *testing.T) {
			d := fresh(t)
			d.logged(bat(list(c.ahead)))
			s := d.openIn(c.room, c.ahead)
			if c.behind == "-" {
				d.calls(0, func() { d.did(s.Put(list(c.recs)), api.ErrFull) })
				d.tells(s, api.OK, c.ahead)
				d.open(c.ahead)
				return
			}
			d.did(s.Put(list(c.recs)), api.OK)
			d.tells(s, api.OK, c.behind)
			d.openIn(c.room, c.behind)
		})
	}
}

// P6.2: what was refused leaves its room to what comes behind it.
func TestPutBehindFull(t *testing.T) {
	d := fresh(t)
	s := d.openIn(6, "")
	for range 3 {
		d.did(s.Put(list("a=1 long=12")), api.ErrFull)
		d.tells(s, api.OK, "")
	}
	d.did(s.Put(list("a=1 b=2 c=3")), api.OK)
	d.did(s.Put(list("c d=45")), api.ErrFull)
	d.did(s.Put(list("c d=4")), api.OK)
	d.open("a=1 b=2 d=4")
}

// filled is a store of the values that are wanted, with so many places left in its log.
func (d on) filled(places int, want string) *Store {
	d.t.Helper()
	l, _, err := log.Open(d.Disk)
	if err != api.OK || l.Append([]string{bat(list(want))}) != api.OK || l.Append(make([]string, l.Room()-places)) != api.OK {
		d.t.Fatalf("no log, %d", err)
	}
	return d.open(want)
}

// P6.2: as long as the batch fits into the log it is appended; a chunk too many, and the map takes the place of all.
func TestPutRenews(t *testing.T) {
	long := strings.Repeat("x", 100)
	cases := []struct {
		places int
		recs   []api.Record
		renews bool
		want   string // the batch of a Renew, by words
	}{
		{1, list("d=4"), false, ""},
		{0, list("d=4"), true, "a=1 b=2 c=3 d=4"},
		{0, list("b"), true, "a=1 c=3"},
		{0, list("d=4 a=9 b b c=3 c=5 e"), true, "a=9 c=5 d=4"},
		{0, list("aa=4 =0"), true, "=0 a=1 aa=4 b=2 c=3"},
		{0, list("c b a"), true, ""},
		{1, []api.Record{put("b", long)}, true, "a=1 b=" + long + " c=3"},
		{2, []api.Record{put("b", long)}, false, ""},
		{1, append([]api.Record{put("b", long)}, list("b=7")...), true, "a=1 b=7 c=3"}, // recs are long, the map is not
		{1, []api.Record{{Kind: api.Del, Key: "b", Value: long}}, false, ""},           // no value, no place
	}
	for i, c := range cases {
		t.Run(fmt.Sprint(i), func(t *testing.T) {
			d := fresh(t)
			s := d.filled(c.places, "a=1 b=2 c=3")
			vals := map[string]string{"a": "1", "b": "2", "c": "3"}
			apply(vals, c.recs)
			chunks := places(bat(c.recs))
			if !c.renews {
				d.calls(chunks+1, func() { d.did(s.Put(c.recs), api.OK) })
				d.has(s, api.OK, vals)
				d.open(words(vals))
				return
			}
			want := bat(list(c.want))
			chunks = places(want)
			d.calls(chunks+3, func() { d.did(s.Put(c.recs), api.OK) })
			d.has(s, api.OK, vals)
			d.Cut(1, 0) // all lasts
			d.Barrier()
			d.Power()
			d.records(127-chunks, want)
			d.open(words(vals))
		})
	}
}

// apply takes recs into vals.
func apply(vals map[string]string, recs []api.Record) {
	for _, x := range recs {
		if x.Kind == api.Put {
			vals[x.Key] = x.Value
		} else {
			delete(vals, x.Key)
		}
	}
}

// P6.2: a store goes on through many a Renew, which a Put meets now and then.
func TestPutOften(t *testing.T) {
	d := fresh(t)
	s := d.open("")
	vals := map[string]string{}
	for i := range 1000 {
		recs := []api.Record{put(fmt.Sprint("k", i%7), strings.Repeat("v", i%150)), del(fmt.Sprint("k", i%3))}
		apply(vals, recs)
		d.did(s.Put(recs), api.OK)
		d.has(s, api.OK, vals)
		if i%97 == 0 {
			s = d.open(words(vals))
		}
	}
}

// P6.2: where neither recs nor the map fit into the log there is no room, whatever room says; nothing is changed, and the store goes on.
func TestPutFull(t *testing.T) {
	cost := len(bat([]api.Record{put("k", strings.Repeat("x", 12000))})) - 12000
	for _, over := range []int{0, 1, 2, 100, 5000} {
		d := fresh(t)
		s := d.open("")
		recs := []api.Record{put("k", strings.Repeat("x", all-cost+over))}
		if over == 0 {
			d.did(s.Put(recs), api.OK)
			d.records(0, bat(recs))
			s = d.open(words(map[string]string{"k": recs[0].Value}))
			d.did(s.Put(list("k=1")), api.OK)
			d.records(126, bat(list("k=1")))
			continue
		}
		d.calls(0, func() { d.did(s.Put(recs), api.ErrFull) })
		d.tells(s, api.OK, "")
		d.did(s.Put(list("a=1")), api.OK)
		d.calls(0, func() { d.did(s.Put(recs), api.ErrFull) })
		d.tells(s, api.OK, "a=1")
		d.open("a=1")
	}

	d := fresh(t)
	s := d.filled(2, "a=1 b=2")
	long := put("c", strings.Repeat("x", all-cost))
	d.calls(0, func() { d.did(s.Put([]api.Record{long}), api.ErrFull) })
	d.tells(s, api.OK, "a=1 b=2")
	d.did(s.Put([]api.Record{long, del("a"), del("b")}), api.OK) // alone it fits
	d.open("c=" + long.Value)
}

// P6.2: behind the last epoch there is no Renew: what doesn't fit is refused, what fits is not.
func TestPutLastEpoch(t *testing.T) {
	d := fresh(t)
	d.head(mostEpoch - 2)
	s := d.filled(1, "a=1 b=2")
	d.did(s.Put(list("a")), api.OK)
	d.calls(0, func() {
		d.did(s.Put(list("b=3")), api.ErrFull)
		d.did(s.Put(list("a b")), api.ErrFull)
		d.did(s.Put(list("b=2")), api.OK)
	})
	d.tells(s, api.OK, "b=2")
	d.noOpen(most, api.ErrFull)
}

// failures are how a disk's call goes wrong.
var failures = []struct {
	name string
	err  api.Errno
	come func(d on, n int)
}{
	{"fails", api.ErrIO, func(d on, n int) { d.Fail(n) }},
	{"goes dark", api.ErrDead, func(d on, n int) { d.Cut(n, 0) }},
}

// still holds that a store in which something went wrong tells that ahead of all else, and what it had.
func (d on) still(s *Store, err api.Errno, want string) {
	d.t.Helper()
	d.Power()
	d.calls(0, func() {
		for _, recs := range [][]api.Record{
			nil, list("a=1"), list("n=1"), list("none"), {{Kind: 7}}, {put("k", strings.Repeat("x", most))},
		} {
			d.did(s.Put(recs), err)
		}
	})
	d.tells(s, err, want)
}

// P6.2: an error of Append is the answer, and no Renew is tried; the map is what it was, and the error told from then on.
func TestPutAppendFails(t *testing.T) {
	for _, f := range failures {
		for n := 1; n <= 3; n++ {
			t.Run(fmt.Sprint(f.name, n), func(t *testing.T) {
				d := fresh(t)
				s := d.open("")
				d.did(s.Put(list("a=1 b=2")), api.OK)
				f.come(d, n)
				recs := []api.Record{del("a"), put("c", strings.Repeat("x", 100))}
				d.calls(n, func() { d.did(s.Put(recs), f.err) })
				d.still(s, f.err, "a=1 b=2")
				if f.err == api.ErrIO && n == 3 { // all is written, but for the barrier
					d.open("b=2 c=" + strings.Repeat("x", 100))
				} else {
					d.open("a=1 b=2")
				}
			})
		}
	}
}

// P6.2: an error of Renew is the answer.
func TestPutRenewFails(t *testing.T) {
	for _, f := range failures {
		for n := 1; n <= 4; n++ {
			t.Run(fmt.Sprint(f.name, n), func(t *testing.T) {
				d := fresh(t)
				s := d.filled(0, "a=1 b=2")
				f.come(d, n)
				d.calls(n, func() { d.did(s.Put(list("a c=3")), f.err) })
				d.still(s, f.err, "a=1 b=2")
				if f.err == api.ErrIO && n == 4 { // the head is written, but for the barrier
					d.open("b=2 c=3")
				} else {
					d.open("a=1 b=2")
				}
			})
		}
	}
}

// P6.2: the power that goes ahead of a Put is told by it, once it has something to write.
func TestPutInTheDark(t *testing.T) {
	d := fresh(t)
	s := d.open("")
	d.did(s.Put(list("a=1")), api.OK)
	d.Cut(1, 0)
	d.Barrier()
	d.did(s.Put(list("a=1")), api.OK)
	d.did(s.Put([]api.Record{{Kind: 9}}), api.ErrArg)
	d.tells(s, api.OK, "a=1")
	d.did(s.Put(list("a=2")), api.ErrDead)
	d.still(s, api.ErrDead, "a=1")
	d.open("a=1")
}

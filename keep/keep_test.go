package keep

import (
	"fmt"
	"math"
	"slices"
	"strings"
	"testing"

	"cubby/api"
	"cubby/chunk"
	"cubby/disk"
	"cubby/log"
)

const (
	most      = 1048576       // 2^20, the greatest room
	mostEpoch = 1099511627776 // 2^40
	all       = 96 * 127      // how many bytes a half of the log holds of one record
)

// on is a disk, and the test that asks stores on it.
type on struct {
	*disk.Disk
	t *testing.T
}

func fresh(t *testing.T) on { return on{disk.New(), t} }

func put(key, value string) api.Record { return api.Record{Kind: api.Put, Key: key, Value: value} }
func del(key string) api.Record        { return api.Record{Kind: api.Del, Key: key} }

// list is records by words: k=v is a Put, k alone a Del.
func list(words string) []api.Record {
	var recs []api.Record
	for word := range strings.FieldsSeq(words) {
		key, value, ok := strings.Cut(word, "=")
		if ok {
			recs = append(recs, put(key, value))
		} else {
			recs = append(recs, del(key))
		}
	}
	return recs
}

// num is a number's code, up to three digits of it.
func num(n int) string {
	switch {
	case n < 1<<7:
		return string([]byte{byte(n)})
	case n < 1<<14:
		return string([]byte{byte(n%128 + 128), byte(n / 128)})
	}
	return string([]byte{byte(n%128 + 128), byte(n/128%128 + 128), byte(n / 128 / 128)})
}

func txt(s string) string { return num(len(s)) + s }

// rec is the bytes of a record.
func rec(x api.Record) string {
	if x.Kind == api.Put {
		return "\x01" + txt(x.Key) + txt(x.Value)
	}
	return "\x02" + txt(x.Key)
}

// bat is the bytes of a batch.
func bat(recs []api.Record) string {
	s := num(len(recs))
	for _, x := range recs {
		s += txt(rec(x))
	}
	return s
}

// open opens a store with all the room there may be, and holds its values against those that are wanted.
func (d on) open(want string) *Store {
	d.t.Helper()
	return d.openIn(most, want)
}

func (d on) openIn(room int, want string) *Store {
	d.t.Helper()
	s, err := Open(d.Disk, room)
	if err != api.OK || s == nil {
		d.t.Fatalf("Open is %v, %d", s, err)
	}
	d.tells(s, api.OK, want)
	return s
}

func (d on) noOpen(room int, want api.Errno) {
	d.t.Helper()
	if s, err := Open(d.Disk, room); s != nil || err != want {
		d.t.Errorf("Open with room %d is %v, %d, want error %d", room, s, err, want)
	}
}

// tells holds all that s tells against what it should: its error, and values by words k=v.
func (d on) tells(s *Store, err api.Errno, want string) {
	d.t.Helper()
	vals := map[string]string{}
	for _, x := range list(want) {
		vals[x.Key] = x.Value
	}
	d.has(s, err, vals)
}

func (d on) has(s *Store, err api.Errno, want map[string]string) {
	d.t.Helper()
	if s.Err() != err {
		d.t.Errorf("Err() is %d, want %d", s.Err(), err)
	}
	var keys []string
	bytes := 0
	for key, value := range want {
		keys = append(keys, key)
		bytes += len(key) + len(value)
		if got, ok := s.Get(key); got != value || !ok {
			d.t.Errorf("Get(%q) is %.40q, %v, want %.40q", key, got, ok, value)
		}
	}
	slices.Sort(keys)
	if got := s.Keys(); !slices.Equal(got, keys) {
		d.t.Errorf("Keys() is %.40q, want %.40q", got, keys)
	}
	if s.Bytes() != bytes {
		d.t.Errorf("Bytes() is %d, want %d", s.Bytes(), bytes)
	}
}

// did holds what a call answered against what it should.
func (d on) did(err, want api.Errno) {
	d.t.Helper()
	if err != want {
		d.t.Errorf("answer is %d, want %d", err, want)
	}
}

// calls runs f, and tells how many calls the disk had of it.
func (d on) calls(want int, f func()) {
	d.t.Helper()
	n := d.Calls()
	f()
	if n = d.Calls() - n; n != want {
		d.t.Errorf("%d calls, want %d", n, want)
	}
}

// records is what the log on d holds, and how many places it has left.
func (d on) records(room int, want ...string) {
	d.t.Helper()
	l, recs, err := log.Open(d.Disk)
	if err != api.OK || !slices.Equal(recs, want) || l.Room() != room {
		d.t.Errorf("the log tells %.80q, %d, want %.80q", recs, err, want)
	}
}

// logged is a log on d to which those records are appended.
func (d on) logged(recs ...string) {
	d.t.Helper()
	l, _, err := log.Open(d.Disk)
	if err != api.OK || l.Append(recs) != api.OK {
		d.t.Fatalf("no log, %d", err)
	}
}

// holds holds all sectors against those of another disk.
func (d on) holds(want on) {
	d.t.Helper()
	for i := range api.Sectors {
		s, _ := d.Read(i)
		if w, _ := want.Read(i); s != w {
			d.t.Errorf("sector %d is %.60q, want %.60q", i, s, w)
		}
	}
}

// The chapter's examples.
func TestExamples(t *testing.T) {
	d := fresh(t)
	s := d.open("")
	d.did(s.Put(list("a=1 b=2")), api.OK)
	d.did(s.Put(list("a")), api.OK)
	d.tells(s, api.OK, "b=2")
	if keys := s.Keys(); !slices.Equal(keys, []string{"b"}) {
		t.Errorf("Keys() is %q", keys)
	}

	d = fresh(t)
	s = d.openIn(3, "")
	d.did(s.Put(list("k=1")), api.OK)
	d.did(s.Put(list("k=123")), api.ErrFull)
	d.tells(s, api.OK, "k=1")
}

// P6.1: room is 0 to 2^20; another one is told ahead of all errors of the disk, of which there is no call.
func TestOpenRoom(t *testing.T) {
	wrong := []int{-1, -2, most + 1, most + 2, math.MinInt, math.MaxInt}
	d := fresh(t)
	for _, room := range wrong {
		d.calls(0, func() { d.noOpen(room, api.ErrArg) })
	}
	for _, room := range []int{0, 1, 3, most - 1, most} {
		d.openIn(room, "")
	}
	d.Cut(1, 0)
	d.Barrier()
	for _, room := range wrong {
		d.noOpen(room, api.ErrArg)
	}
	d.noOpen(0, api.ErrDead)
}

// P6.1: an error of log.Open is the answer, and there is no store; the next Open tells what was there.
func TestOpenErrors(t *testing.T) {
	d := fresh(t)
	s := d.open("")
	d.did(s.Put(list("a=1 b=2")), api.OK)
	for n := 1; n <= 2; n++ {
		d.Fail(n)
		d.calls(n, func() { d.noOpen(most, api.ErrIO) })
		d.Cut(n, uint64(n))
		d.calls(n, func() { d.noOpen(most, api.ErrDead) })
		d.calls(0, func() { d.noOpen(most, api.ErrDead) })
		d.Power()
	}
	d.open("a=1 b=2")

	d = fresh(t)
	d.head(mostEpoch)
	d.calls(0, func() { d.noOpen(most, api.ErrFull) })
}

// head writes the head of an epoch.
func (d on) head(epoch int) {
	d.t.Helper()
	s, err := chunk.Encode(api.Chunk{Epoch: epoch, First: true, Last: true, Data: "0"})
	if err != api.OK || d.Write(epoch%2, s) != api.OK {
		d.t.Fatalf("no head of %d", epoch)
	}
}

// P6.1: Open writes what log.Open writes, and nothing else.
func TestOpenWrites(t *testing.T) {
	d, other := fresh(t), fresh(t)
	for _, x := range []on{d, other} {
		x.logged(bat(list("a=1")), "none", bat(list("a=2 b=3")))
	}
	d.calls(2, func() { d.open("a=2 b=3") })
	if _, _, err := log.Open(other.Disk); err != api.OK {
		t.Fatal(err)
	}
	d.holds(other)
}

// P6.1: all records of the batches are taken, in their order.
func TestOpenTakes(t *testing.T) {
	for _, x := range []struct {
		batches []string // by words, as list takes them
		want    string
	}{
		{nil, ""},
		{[]string{""}, ""},
		{[]string{"a=1"}, "a=1"},
		{[]string{"a="}, "a="},
		{[]string{"=a"}, "=a"},
		{[]string{"="}, "="},
		{[]string{"a=1 b=2", "c=3"}, "a=1 b=2 c=3"},
		{[]string{"a=1 a=2"}, "a=2"},
		{[]string{"a=1", "a=2"}, "a=2"},
		{[]string{"a=2", "a=1"}, "a=1"},
		{[]string{"a=1 a"}, ""},
		{[]string{"a a=1"}, "a=1"},
		{[]string{"a=1", "a"}, ""},
		{[]string{"a", "a=1"}, "a=1"},
		{[]string{"a=1", "", "a", "", "a=3", "b"}, "a=3"},
		{[]string{"a=1 b=2", "b a", "b=3"}, "b=3"},
		{[]string{"a=1 aa=2 =3", "aa", "ab=4"}, "a=1 =3 ab=4"},
	} {
		d := fresh(t)
		var recs []string
		for _, words := range x.batches {
			recs = append(recs, bat(list(words)))
		}
		d.logged(recs...)
		d.open(x.want)
		d.open(x.want)
	}
}

// P6.1: long keys and values, and many of them, in batches of several chunks.
func TestOpenTakesMuch(t *testing.T) {
	d := fresh(t)
	want := map[string]string{}
	var recs []api.Record
	for i := range 300 {
		key := fmt.Sprint("key", i)
		recs = append(recs, put(key, strings.Repeat("x", i%30)))
		want[key] = strings.Repeat("x", i%30)
	}
	long := strings.Repeat("\xff\x00", 500)
	recs = append(recs, put(long, long+"v"))
	want[long] = long + "v"
	d.logged(bat(recs[:200]), bat(recs[200:]))
	s := d.open(words(want))
	d.has(s, api.OK, want)
}

// words is values as list takes them; none of them has a space.
func words(vals map[string]string) string {
	var b strings.Builder
	for key, value := range vals {
		b.WriteString(key + "=" + value + " ")
	}
	return b.String()
}

// P6.1: a batch that is none counts as empty: nothing of it is taken, and those about it are.
func TestOpenNoBatch(t *testing.T) {
	a, b := txt(rec(put("a", "9"))), txt(rec(del("k")))
	good := "\x02" + a + b
	cases := map[string]string{
		"nothing":                "",
		"text":                   "cubby",
		"one of none":            "\x01",
		"three of two":           "\x03" + a + b,
		"one of two":             "\x01" + a + b,
		"none of two":            "\x00" + a + b,
		"far too many":           "\xff\xff\xff\xff\xff\xff\xff\x7f" + a + b,
		"a byte behind":          good + "\x00",
		"a record behind":        good + b,
		"a count that goes on":   "\x82",
		"a count that is none":   "\x82\x00" + a + b,
		"a count too long":       "\x80\x80\x80\x80\x80\x80\x80\x80\x01" + a + b,
		"a record that is none":  "\x02" + a + txt(""),
		"of no kind":             "\x02" + a + txt("\x00\x01k"),
		"of kind 3":              "\x02" + a + txt("\x03\x01k"),
		"a Del with a value":     "\x02" + a + txt("\x02\x01k\x01v"),
		"a Put without one":      "\x02" + a + txt("\x01\x01k"),
		"a byte in a record":     "\x02" + a + txt(rec(del("k"))+"\x00"),
		"a record that is short": "\x02" + a + txt("\x02\x02k"),
		"the first one is none":  "\x02" + txt("\x01") + a,
		"a text of no length":    "\x02" + a + "\x83\x00\x02\x01k",
		"no texts":               "\x02" + rec(put("a", "9")) + rec(del("k")),
	}
	for i := range len(good) {
		cases[fmt.Sprint("the first ", i)] = good[:i]
	}
	for name, s := range cases {
		t.Run(name, func(t *testing.T) {
			d := fresh(t)
			d.logged(bat(list("k=1 a=0")), s, bat(list("b=2")))
			d.open("k=1 a=0 b=2")
			d = fresh(t)
			d.logged(s)
			d.open("")
		})
	}
	d := fresh(t)
	d.logged(bat(list("k=1 a=0")), good, bat(list("b=2")))
	d.open("a=9 b=2")
}

// P6.1: what is there may be more than room; Open tells it all.
func TestOpenAboveRoom(t *testing.T) {
	d := fresh(t)
	d.logged(bat(list("a=1234 b=5678")))
	for _, room := range []int{0, 1, 9, 10, most} {
		d.openIn(room, "a=1234 b=5678")
	}
}

// P6.1: Get tells an empty value from none, and keys by all their bytes.
func TestGet(t *testing.T) {
	d := fresh(t)
	s := d.open("")
	keys := []string{"", "a", "A", "a\x00", "\x00a", "aa", "\x80", "\xc3\xa9", "\xc3", "k=", strings.Repeat("k", 300)}
	for _, key := range keys {
		if v, ok := s.Get(key); v != "" || ok {
			t.Errorf("Get(%q) of nothing is %q, %v", key, v, ok)
		}
	}
	for i, key := range keys {
		d.did(s.Put([]api.Record{put(key, fmt.Sprint(i)), put(key+"e", "")}), api.OK)
	}
	for range 2 {
		for i, key := range keys {
			if v, ok := s.Get(key); v != fmt.Sprint(i) || !ok {
				t.Errorf("Get(%q) is %q, %v, want %d", key, v, ok, i)
			}
			if v, ok := s.Get(key + "e"); v != "" || !ok {
				t.Errorf("Get(%q) is %q, %v, want nothing, true", key+"e", v, ok)
			}
			if v, ok := s.Get(key + "n"); v != "" || ok {
				t.Errorf("Get(%q) is %q, %v, want none", key+"n", v, ok)
			}
		}
	}
	d.did(s.Put(list("a")), api.OK)
	if v, ok := s.Get("a"); v != "" || ok {
		t.Errorf("Get of what went is %q, %v", v, ok)
	}
}

// P6.1: Keys rise by their bytes, whatever their order was, each once.
func TestKeys(t *testing.T) {
	d := fresh(t)
	s := d.open("")
	rising := []string{"", "\x00", "\x00\x00", "\n", "0", "10", "9", "B", "a", "a\x00", "aa", "ab", "b", "\x7f", "\x80", "\xc3", "\xc3\xa9", "\xff", "\xff\xff"}
	for _, i := range []int{7, 3, 18, 0, 12, 9, 1, 15, 4, 17, 10, 2, 16, 5, 13, 8, 6, 11, 14} {
		d.did(s.Put([]api.Record{put(rising[i], "v"), put(rising[i], "w")}), api.OK)
	}
	for range 20 {
		if got := s.Keys(); !slices.Equal(got, rising) {
			t.Fatalf("Keys() is %q", got)
		}
	}
	again, err := Open(d.Disk, most)
	if err != api.OK || !slices.Equal(again.Keys(), rising) {
		t.Errorf("Keys() is %q, %d", again.Keys(), err)
	}
}

// P6.1: Bytes are those of keys and values that are there now.
func TestBytes(t *testing.T) {
	d := fresh(t)
	s := d.open("")
	for _, x := range []struct {
		recs []api.Record
		want int
	}{
		{nil, 0},
		{list("="), 0},
		{list("a="), 1},
		{list("a=123"), 4},
		{list("a=1"), 2},
		{list("a=1 a=12 a=123456"), 7},
		{list("b=1 c=1 b"), 9},
		{[]api.Record{put("\xc3\xa9", "\xc3\xa9")}, 13},
		{list("x y z"), 13},
		{list("a c"), 4},
		{[]api.Record{put("", strings.Repeat("x", 1000))}, 1004},
		{[]api.Record{del("")}, 4},
	} {
		d.did(s.Put(x.recs), api.OK)
		if s.Bytes() != x.want {
			t.Errorf("Bytes() is %d behind %v, want %d", s.Bytes(), x.recs, x.want)
		}
	}
	again := d.open("\xc3\xa9=\xc3\xa9")
	if again.Bytes() != 4 {
		t.Errorf("Bytes() is %d", again.Bytes())
	}
}

// Two keys of one digest, which sum.Mix makes of unlike texts.
const twin, twin2 = "8yn0iYCKYHlIj4-BwPqk", "GReLUrM4wMqfg9yzV3KQ"

// Keys are compared as texts: those of one digest have values of their own, come and go by themselves.
func TestOneDigest(t *testing.T) {
	for _, behind := range []string{"", "x"} { // what is behind them leaves them twins
		a, b := twin+behind, twin2+behind
		d := fresh(t)
		s := d.open("")
		d.did(s.Put(list(a+"=1")), api.OK)
		if v, ok := s.Get(b); v != "" || ok {
			t.Errorf("Get(%q) is %q, %v", b, v, ok)
		}
		d.calls(0, func() { d.did(s.Put(list(b)), api.OK) })
		d.tells(s, api.OK, a+"=1")
		d.did(s.Put(list(b+"=1")), api.OK)
		d.tells(s, api.OK, a+"=1 "+b+"=1")
		d.did(s.Put(list(a+"=2 "+b+"=34")), api.OK)
		d.tells(s, api.OK, b+"=34 "+a+"=2")
		d.open(b + "=34 " + a + "=2")
		s = d.open(b + "=34 " + a + "=2")
		d.calls(0, func() { d.did(s.Put(list(b+"=34 "+a+"=2")), api.OK) })
		d.did(s.Put(list(a)), api.OK)
		d.tells(s, api.OK, b+"=34")
		d.did(s.Put(list(a+"=5 "+b)), api.OK)
		d.tells(s, api.OK, a+"=5")
		d.open(a + "=5")
	}
}

// R3: what is handed in is neither changed nor kept, what is told is new; two stores have nothing in common.
func TestApart(t *testing.T) {
	d, other := fresh(t), fresh(t)
	s, o := d.open(""), other.open("")
	recs := list("b=2 a=1 c b=3 x=1 y=2")
	d.did(s.Put(recs[:4]), api.OK)
	if !slices.Equal(recs, list("b=2 a=1 c b=3 x=1 y=2")) {
		t.Errorf("recs are %v", recs)
	}
	clear(recs)
	other.did(o.Put(list("z=1")), api.OK)
	keys := s.Keys()
	for i := range keys {
		keys[i] = "changed"
	}
	_ = append(keys[:0], "more", "more", "more")
	d.tells(s, api.OK, "a=1 b=3")
	other.tells(o, api.OK, "z=1")
	d.open("a=1 b=3")
	other.open("z=1")
	d.Fail(1)
	d.did(s.Put(list("a")), api.ErrIO)
	other.did(o.Put(list("a=1")), api.OK)
	other.tells(o, api.OK, "a=1 z=1")
}

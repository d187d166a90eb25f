package pack

import (
	"math"
	"strings"
	"testing"

	"cubby/api"
)

// P2.3: the Kind, the Key, and the Value of a Put alone.
func TestRecord(t *testing.T) {
	for _, x := range []struct {
		x    api.Record
		want string
	}{
		{api.Record{Kind: api.Put, Key: "k", Value: "value"}, "\x01\x01k\x05value"},
		{api.Record{Kind: api.Put}, "\x01\x00\x00"},
		{api.Record{Kind: api.Put, Key: "\x00\xff", Value: "\x80"}, "\x01\x02\x00\xff\x01\x80"},
		{api.Record{Kind: api.Put, Value: strings.Repeat("v", 300)}, "\x01\x00\xac\x02" + strings.Repeat("v", 300)},
		{api.Record{Kind: api.Del, Key: "k"}, "\x02\x01k"},
		{api.Record{Kind: api.Del, Key: "k", Value: "not told"}, "\x02\x01k"},
		{api.Record{Kind: api.Del}, "\x02\x00"},
		{api.Record{Key: "k", Value: "v"}, "\x00\x01k"},
		{api.Record{Kind: 3, Key: "k", Value: "v"}, "\x03\x01k"},
		{api.Record{Kind: 300, Key: "k", Value: "v"}, "\xac\x02\x01k"},
		{api.Record{Kind: -1, Key: "k", Value: "v"}, "\x00\x01k"},
		{api.Record{Kind: math.MaxInt, Key: "k"}, codeOf(most) + "\x01k"},
	} {
		if got := Record(x.x); got != x.want {
			t.Errorf("Record(%v) is %q, want %q", x.x, got, x.want)
		}
	}
}

// P2.3, P2.4: a record is read back, of a Del without its Value.
func TestUnrecord(t *testing.T) {
	for _, key := range texts() {
		for _, value := range texts() {
			put := api.Record{Kind: api.Put, Key: key, Value: value}
			if x, err := Unrecord(Record(put)); x != put || err != api.OK {
				t.Fatalf("Unrecord(Record(%v)) is %v, %d", put, x, err)
			}
			del := api.Record{Kind: api.Del, Key: key}
			if x, err := Unrecord(Record(api.Record{Kind: api.Del, Key: key, Value: value})); x != del || err != api.OK {
				t.Fatalf("Unrecord of the Del of %q is %v, %d", key, x, err)
			}
		}
	}
}

// P2.3: bytes that are no record: the first error is told, with no record.
func TestUnrecordWrong(t *testing.T) {
	high := strings.Repeat("\x80", 8)
	for _, x := range []struct {
		s    string
		want api.Errno
	}{
		{"", api.ErrShort},                    // no Kind
		{"\x80", api.ErrShort},                // half a Kind
		{high, api.ErrShort},                  // not yet too long
		{high + "\x01", api.ErrForm},          // too long
		{"\x80\x00", api.ErrForm},             // the chapter's example
		{"\x81\x00\x01k\x01v", api.ErrForm},   // Put, but its last digit is 0
		{"\x00", api.ErrForm},                 // a Kind that may not be, ahead of a Key that is missing
		{"\x00\x01k\x01v", api.ErrForm},       // whole, but of no Kind
		{"\x03", api.ErrForm},                 //
		{"\x03\x01k\x01v", api.ErrForm},       //
		{"\x03\x01k", api.ErrForm},            //
		{"\x81\x01\x01k", api.ErrForm},        // Kind 129
		{codeOf(most) + "\x01k", api.ErrForm}, //
		{"\x01", api.ErrShort},                // no Key
		{"\x02", api.ErrShort},                //
		{"\x01\x02k", api.ErrShort},           // half a Key
		{"\x02\x02k", api.ErrShort},           //
		{"\x01\x80\x00", api.ErrForm},         // a Key of no length
		{"\x02\x80\x00", api.ErrForm},         //
		{"\x01" + high + "\x01", api.ErrForm}, //
		{"\x01\x01k", api.ErrShort},           // no Value
		{"\x01\x01k\x02v", api.ErrShort},      // half a Value
		{"\x01\x01k\x80\x00", api.ErrForm},    // a Value of no length
		{"\x01\x01k" + codeOf(most), api.ErrShort},
		{"\x01\x01k\x01v\x00", api.ErrForm}, // a byte that is left
		{"\x02\x01k\x00", api.ErrForm},      //
		{"\x02\x01k\x01v", api.ErrForm},     // a Del with a Value
		{"cubby", api.ErrForm},
	} {
		if got, err := Unrecord(x.s); got != (api.Record{}) || err != x.want {
			t.Errorf("Unrecord(%q) is %v, %d, want error %d", x.s, got, err, x.want)
		}
	}
}

// P2.3: each beginning of a record is too short.
func TestUnrecordBeginnings(t *testing.T) {
	for _, x := range []api.Record{
		{Kind: api.Put, Key: "key", Value: "value"},
		{Kind: api.Put, Key: strings.Repeat("k", 128), Value: strings.Repeat("v", 300)},
		{Kind: api.Del, Key: "key"},
	} {
		s := Record(x)
		for i := range len(s) {
			if got, err := Unrecord(s[:i]); got != (api.Record{}) || err != api.ErrShort {
				t.Fatalf("Unrecord(%q) is %v, %d, want ErrShort", s[:i], got, err)
			}
		}
	}
}

// P2.4: a text has one meaning at most: what is a record is that record's own bytes.
func TestRecordsHaveOneText(t *testing.T) {
	bytes := []byte{0x00, 0x01, 0x02, 0x03, 0x80, 0x81, 0xff}
	all := []string{""}
	for at := 0; len(all[at]) < 5; at++ {
		for _, b := range bytes {
			all = append(all, all[at]+string([]byte{b}))
		}
	}
	records := 0
	for _, s := range all {
		x, err := Unrecord(s)
		if err != api.OK {
			continue
		}
		records++
		if Record(x) != s {
			t.Fatalf("Unrecord(%q) is %v, whose Record is %q", s, x, Record(x))
		}
	}
	if records == 0 {
		t.Error("no text is a record")
	}
}

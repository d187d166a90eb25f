package chunk

import (
	"hash/crc32"
	"math"
	"strings"
	"testing"

	"cubby/api"
)

const most = 1099511627776 // 2^40

// sealed is body with its check sum behind it, as the library works it out.
func sealed(body string) string {
	c := crc32.ChecksumIEEE([]byte(body))
	return body + string([]byte{byte(c), byte(c >> 8), byte(c >> 16), byte(c >> 24)})
}

// numbers are those that a chunk may have, and their codes: the edges, and those of each count of digits.
var numbers = []struct {
	n    int
	code string
}{
	{0, "\x00"},
	{1, "\x01"},
	{127, "\x7f"},
	{128, "\x80\x01"},
	{300, "\xac\x02"},
	{1<<14 - 1, "\xff\x7f"},
	{1 << 14, "\x80\x80\x01"},
	{1 << 35, "\x80\x80\x80\x80\x80\x01"},
	{most - 1, "\xff\xff\xff\xff\xff\x1f"},
	{most, "\x80\x80\x80\x80\x80\x20"},
}

// noNumbers are those that a chunk may not have.
func noNumbers() []int {
	return []int{-1, -2, -most, math.MinInt, most + 1, most + 2, 1 << 41, 1<<56 - 1, 1 << 56, math.MaxInt}
}

// marks are First and Last: each alone, both and neither, and their code.
var marks = []struct {
	first, last bool
	code        string
}{
	{false, false, "\x00"},
	{true, false, "\x01"},
	{false, true, "\x02"},
	{true, true, "\x03"},
}

// datas are what a chunk may hold, and as texts.
func datas() map[string]string {
	return map[string]string{
		"":                         "\x00",
		"a":                        "\x01a",
		"\x00":                     "\x01\x00",
		"\xff\x80":                 "\x02\xff\x80",
		"\xc3\xa9":                 "\x02\xc3\xa9",
		"line\n and":               "\x09line\n and",
		strings.Repeat("x", 95):    "\x5f" + strings.Repeat("x", 95),
		strings.Repeat("\xff", 96): "\x60" + strings.Repeat("\xff", 96),
		strings.Repeat("é", 48):    "\x60" + strings.Repeat("é", 48),
	}
}

// encodes are chunks and their bytes, of all that chunks may have.
func encodes() map[api.Chunk]string {
	all := map[api.Chunk]string{}
	for _, e := range numbers {
		for _, q := range numbers {
			for _, m := range marks {
				for data, text := range datas() {
					c := api.Chunk{Epoch: e.n, Seq: q.n, First: m.first, Last: m.last, Data: data}
					all[c] = sealed(e.code + q.code + m.code + text)
				}
			}
		}
	}
	return all
}

// bad asks for an error, without bytes.
func bad(t *testing.T, c api.Chunk, want api.Errno) {
	t.Helper()
	if s, err := Encode(c); s != "" || err != want {
		t.Errorf("Encode(%+v) is % x, %d, want error %d", c, s, err, want)
	}
}

// none asks that s is no chunk's bytes.
func none(t *testing.T, s string) {
	t.Helper()
	if c, err := Decode(s); c != (api.Chunk{}) || err != api.ErrForm {
		t.Errorf("Decode(% x) is %+v, %d, want ErrForm", s, c, err)
	}
}

// P4.1: the chapter's example, and bytes that are written out.
func TestEncodeWrittenOut(t *testing.T) {
	for _, x := range []struct {
		c    api.Chunk
		want string
	}{
		{api.Chunk{}, "\x00\x00\x00\x00\x1c\xdf\x44\x21"},
		{api.Chunk{Epoch: 1, Seq: 300, First: true, Last: true, Data: "ab"}, "\x01\xac\x02\x03\x02ab\x2d\x77\x6e\xe1"},
		{api.Chunk{Epoch: 128, Seq: 2, Last: true, Data: "\xff"}, "\x80\x01\x02\x02\x01\xff\xe2\x5e\x86\x0f"},
	} {
		if s, err := Encode(x.c); s != x.want || err != api.OK {
			t.Errorf("Encode(%+v) is % x, %d, want % x", x.c, s, err, x.want)
		}
	}
	if s, _ := Encode(api.Chunk{}); len(s) != 8 {
		t.Errorf("the zero chunk has %d bytes, want 8", len(s))
	}
}

// P4.1: each number, flag and Data that may be, each with each; no chunk is longer than a sector.
func TestEncode(t *testing.T) {
	for c, want := range encodes() {
		s, err := Encode(c)
		if s != want || err != api.OK {
			t.Fatalf("Encode(%+v) is % x, %d, want % x", c, s, err, want)
		}
		if len(s) > api.Sector {
			t.Fatalf("Encode(%+v) has %d bytes", c, len(s))
		}
	}
}

// P4.1: an Epoch, or a Seq, that may not be.
func TestEncodeArg(t *testing.T) {
	for _, n := range noNumbers() {
		bad(t, api.Chunk{Epoch: n}, api.ErrArg)
		bad(t, api.Chunk{Seq: n}, api.ErrArg)
		bad(t, api.Chunk{Epoch: n, Seq: n}, api.ErrArg)
		bad(t, api.Chunk{Epoch: n, Seq: most, First: true, Last: true, Data: "d"}, api.ErrArg)
		bad(t, api.Chunk{Epoch: most, Seq: n, First: true, Last: true, Data: "d"}, api.ErrArg)
	}
}

// P4.1: Data that is too long.
func TestEncodeSize(t *testing.T) {
	for _, n := range []int{97, 98, 128, 192, 5000} {
		bad(t, api.Chunk{Data: strings.Repeat("d", n)}, api.ErrSize)
		bad(t, api.Chunk{Epoch: most, Seq: most, First: true, Last: true, Data: strings.Repeat("\x00", n)}, api.ErrSize)
	}
	bad(t, api.Chunk{Data: strings.Repeat("é", 49)}, api.ErrSize)
}

// P4.1: ErrArg is told ahead of ErrSize.
func TestEncodeErrorsInOrder(t *testing.T) {
	long := strings.Repeat("d", 97)
	for _, n := range noNumbers() {
		bad(t, api.Chunk{Epoch: n, Data: long}, api.ErrArg)
		bad(t, api.Chunk{Seq: n, Data: long}, api.ErrArg)
	}
}

// P4.3: the lengths of the pieces, and that one behind the other they are the text.
func TestCut(t *testing.T) {
	var b strings.Builder
	for i := range 1000 {
		b.WriteByte(byte(i * 7))
	}
	text := b.String()
	for _, x := range []struct {
		n    int
		want []int
	}{
		{0, []int{0}},
		{1, []int{1}},
		{95, []int{95}},
		{96, []int{96}},
		{97, []int{96, 1}},
		{191, []int{96, 95}},
		{192, []int{96, 96}},
		{193, []int{96, 96, 1}},
		{200, []int{96, 96, 8}}, // the chapter's example
		{288, []int{96, 96, 96}},
		{1000, []int{96, 96, 96, 96, 96, 96, 96, 96, 96, 96, 40}},
	} {
		cut := Cut(text[:x.n])
		if len(cut) != len(x.want) {
			t.Errorf("Cut of %d bytes has %d pieces, want %d", x.n, len(cut), len(x.want))
			continue
		}
		for i, piece := range cut {
			if len(piece) != x.want[i] {
				t.Errorf("Cut of %d bytes: piece %d has %d, want %d", x.n, i, len(piece), x.want[i])
			}
		}
		if strings.Join(cut, "") != text[:x.n] {
			t.Errorf("Cut of %d bytes: the pieces are not the text", x.n)
		}
	}
}

// P4.3: it goes by bytes, not by runes, of which a piece may end within.
func TestCutWithinRunes(t *testing.T) {
	s := "x" + strings.Repeat("é", 60)
	cut := Cut(s)
	if len(cut) != 2 || cut[0] != s[:96] || cut[1] != s[96:] {
		t.Errorf("Cut(%q) is %q", s, cut)
	}
}

// P4.3: what is told piece by piece may be left early, and gone through again.
func TestPieces(t *testing.T) {
	all := pieces(strings.Repeat("p", 300))
	for _, upTo := range []int{1, 2, 3, 4} {
		met := 0
		for range all {
			met++
			if met == upTo {
				break
			}
		}
		if met != upTo {
			t.Errorf("left behind %d pieces, want %d", met, upTo)
		}
	}
}

// R3: two answers share nothing.
func TestCutsApart(t *testing.T) {
	s := strings.Repeat("s", 200)
	first := Cut(s)
	first[0] = "changed"
	_ = append(first, "more")
	if again := Cut(s); len(again) != 3 || again[0] != s[:96] || again[2] != s[192:] {
		t.Errorf("Cut again is %q", again)
	}
}

package sum

import (
	"hash/crc32"
	"hash/fnv"
	"strings"
	"testing"
)

// allBytes has each byte once, those above 127 too, so that it is no text of runes.
func allBytes() string {
	var b strings.Builder
	for i := range 256 {
		b.WriteByte(byte(i))
	}
	return b.String()
}

// texts are what the check sums are asked of: the empty one, ordinary ones, zero bytes, bytes above 127.
func texts() []string {
	return []string{
		"", "a", "b", "ab", "ba", "123456789",
		"\x00", "\x00\x00", "a\x00", "\x00a",
		"\x7f", "\x80", "\xff", "\xff\xff\xff\xff", "\xc3\xa9", "\xc3", "a\xffb\x80",
		allBytes(), strings.Repeat("\xee cubby", 500),
	}
}

// P1.1: bit by bit, at values that were worked out by hand or that the table of another one holds.
func TestStep(t *testing.T) {
	for _, x := range []struct {
		c    uint32
		b    byte
		want uint32
	}{
		{0, 0, 0},
		{0, 1, 0x77073096},
		{0, 0x80, 0xedb88320}, // the bit goes at the eighth shift alone
		{0x80, 0, 0xedb88320}, // c's lowest eight are taken as b's are
		{0x80, 0x80, 0},
		{0, 0xff, 0x2d02ef8d},
		{0xff, 0xff, 0},
		{0xffffffff, 0xff, 0x00ffffff},
		{0x100, 0, 1}, // what stands above the lowest eight is shifted alone
		{0xffffff00, 0, 0x00ffffff},
	} {
		if got := Step(x.c, x.b); got != x.want {
			t.Errorf("Step(%#x, %#x) = %#x, want %#x", x.c, x.b, got, x.want)
		}
	}
}

// P1.1: all bytes, behind several values.
func TestStepOfAllBytes(t *testing.T) {
	for _, c := range []uint32{0, 1, 0x80, 0xff, 0x100, 0x12345678, 0x80000000, 0xdeadbeef, 0xffffffff} {
		for i := range 256 {
			b := byte(i)
			want := crc32.IEEETable[byte(c)^b] ^ c>>8
			if got := Step(c, b); got != want {
				t.Fatalf("Step(%#x, %#x) = %#x, want %#x", c, b, got, want)
			}
		}
	}
}

// P1.2: the chapter's examples, and values that are known.
func TestCrcExamples(t *testing.T) {
	for _, x := range []struct {
		s    string
		want uint32
	}{
		{"123456789", 0xcbf43926},
		{"", 0},
		{"a", 0xe8b7be43},
		{"\x00", 0xd202ef8d},
		{"\xff", 0xff000000},
		{"\xff\xff\xff\xff", 0xffffffff},
	} {
		if got := Crc(x.s); got != x.want {
			t.Errorf("Crc(%q) = %#x, want %#x", x.s, got, x.want)
		}
	}
}

// P1.2: byte by byte by Step, and as the library works it out.
func TestCrcOfTexts(t *testing.T) {
	for _, s := range texts() {
		c := uint32(0xffffffff)
		for _, b := range []byte(s) {
			c = Step(c, b)
		}
		if got := Crc(s); got != ^c || got != crc32.ChecksumIEEE([]byte(s)) {
			t.Errorf("Crc(%q) = %#x, want %#x", s, got, ^c)
		}
	}
}

// P1.3: the chapter's examples, and values that are known.
func TestMixExamples(t *testing.T) {
	for _, x := range []struct {
		s    string
		want uint64
	}{
		{"", 14695981039346656037},
		{"a", 12638187200555641996},
		{"123456789", 0x06d5573923c6cdfc},
		{"\x00", 0xaf63bd4c8601b7df},
		{"\xff", 0xaf64724c8602eb6e},
	} {
		if got := Mix(x.s); got != x.want {
			t.Errorf("Mix(%q) = %#x, want %#x", x.s, got, x.want)
		}
	}
}

// P1.3: as the library works it out.
func TestMixOfTexts(t *testing.T) {
	for _, s := range texts() {
		h := fnv.New64a()
		h.Write([]byte(s))
		if got, want := Mix(s), h.Sum64(); got != want {
			t.Errorf("Mix(%q) = %#x, want %#x", s, got, want)
		}
	}
}

// P1.4: one byte that differs, wherever it stands and whichever it becomes, makes another Crc.
func TestCrcOfOneByteThatDiffers(t *testing.T) {
	for _, s := range []string{"a", "123456789", "\x00\x00\x00\x00\x00", "a\xffb\x80", allBytes()} {
		was := Crc(s)
		for i := range len(s) {
			for n := range 256 {
				if byte(n) == s[i] {
					continue
				}
				other := s[:i] + string([]byte{byte(n)}) + s[i+1:]
				if Crc(other) == was {
					t.Fatalf("Crc of %q and of %q is the same", s, other)
				}
			}
		}
	}
}

// P1.4: from the first text's Crc on, with the second text alone.
func TestCrcOfTwoTexts(t *testing.T) {
	for _, a := range texts() {
		for _, b := range texts() {
			c := ^Crc(a)
			for _, x := range []byte(b) {
				c = Step(c, x)
			}
			if got := Crc(a + b); got != ^c {
				t.Fatalf("Crc(%q, %q) = %#x, want %#x", a, b, got, ^c)
			}
		}
	}
}

// P1.4: two first texts of one Crc, then the same second text: the same Crc again.
func TestCrcOfTwoTextsOfOneCrc(t *testing.T) {
	first, other := "\x00\x00\x00\x00", sameCrc("\x00\x00\x00\x00", "tail")
	if first == other || Crc(first) != Crc(other) {
		t.Fatalf("%q and %q are no two texts of one Crc", first, other)
	}
	for _, s := range texts() {
		if Crc(first+s) != Crc(other+s) {
			t.Errorf("behind %q and %q, %q makes two Crcs of one", first, other, s)
		}
	}
}

// sameCrc is a text that begins with start and has the Crc of s: four bytes behind start that bring it there.
func sameCrc(s, start string) string {
	// Going back: each of four steps is told by the top byte of what comes of it.
	want := ^Crc(s)
	var rows [4]byte
	for i := range rows {
		for n := range 256 {
			if row := Step(0, byte(n)); byte(row>>24) == byte(want>>24) {
				rows[i] = byte(n)
				want = (want ^ row) << 8
				break
			}
		}
	}
	c := ^Crc(start)
	for i := range rows {
		b := byte(c) ^ rows[3-i]
		start += string([]byte{b})
		c = Step(c, b)
	}
	return start
}

package chunk

import (
	"strings"
	"testing"

	"cubby/api"
)

// P4.2, P4.4: a chunk is read back.
func TestDecode(t *testing.T) {
	for c, s := range encodes() {
		if got, err := Decode(s); got != c || err != api.OK {
			t.Fatalf("Decode(% x) is %+v, %d, want %+v", s, got, err, c)
		}
	}
}

// P4.2, P4.4: what was cut is read back, piece by piece.
func TestDecodeCut(t *testing.T) {
	for _, n := range []int{0, 1, 95, 96, 97, 192, 200, 1000} {
		text, back := strings.Repeat("\xee\x00ab", n)[:n], ""
		for i, piece := range Cut(text) {
			s, err := Encode(api.Chunk{Epoch: most, Seq: i, Data: piece})
			if err != api.OK {
				t.Fatalf("Encode of piece %d of %d bytes: %d", i, n, err)
			}
			c, err := Decode(s)
			if err != api.OK || c.Seq != i {
				t.Fatalf("Decode of piece %d of %d bytes: %+v, %d", i, n, c, err)
			}
			back += c.Data
		}
		if back != text {
			t.Errorf("%d bytes that were cut come back as %q", n, back)
		}
	}
}

// some are bytes of chunks, short and long ones.
func some(t *testing.T) []string {
	t.Helper()
	var all []string
	for _, c := range []api.Chunk{
		{},
		{Epoch: 1, First: true, Last: true, Data: "0"},
		{Epoch: 300, Seq: 126, Last: true, Data: "some data\x00"},
		{Epoch: most, Seq: most, First: true, Data: strings.Repeat("\xff", 96)},
		{Epoch: most - 1, Seq: 128, First: true, Last: true, Data: strings.Repeat("\x00", 96)},
	} {
		s, err := Encode(c)
		if err != api.OK {
			t.Fatalf("Encode(%+v): %d", c, err)
		}
		all = append(all, s)
	}
	return all
}

// P4.2: the empty text, and texts that are no chunk by far.
func TestDecodeNone(t *testing.T) {
	for _, s := range []string{
		"", "\x00", "\x00\x00\x00\x00", strings.Repeat("\x00", 8), strings.Repeat("\xff", 8), strings.Repeat("\x80", 100),
		"cubby", strings.Repeat("cubby", 1000), sealed(""), sealed("\x00"), sealed(strings.Repeat("\x80", 20)),
	} {
		none(t, s)
	}
}

// P4.2: beginnings of a chunk's bytes, also with a check sum of their own.
func TestDecodeBeginnings(t *testing.T) {
	for _, s := range some(t) {
		for i := range len(s) {
			none(t, s[:i])
		}
		body := s[:len(s)-4]
		for i := range len(body) {
			none(t, sealed(body[:i]))
		}
	}
}

// P4.2: a chunk's bytes with more behind them, ahead of the check sum or behind it, or ahead of them all.
func TestDecodeMore(t *testing.T) {
	for _, s := range some(t) {
		body := s[:len(s)-4]
		for _, more := range []string{"\x00", "\x01", "\xff", "tail", "\x00\x00\x00\x00", s} {
			none(t, s+more)
			none(t, more+s)
			none(t, sealed(body+more))
			none(t, sealed(s+more))
		}
		none(t, sealed(s))
	}
}

// P4.4: a byte of the check sum, or of the rest, that is another one.
func TestDecodeOneByteThatDiffers(t *testing.T) {
	for _, s := range some(t) {
		for i := range len(s) {
			for n := range 256 {
				if byte(n) != s[i] {
					none(t, s[:i]+string([]byte{byte(n)})+s[i+1:])
				}
			}
		}
	}
}

// P4.4: two bytes that changed places.
func TestDecodeSwapped(t *testing.T) {
	for _, s := range some(t) {
		for i := range len(s) - 1 {
			if s[i] != s[i+1] {
				none(t, s[:i]+s[i+1:i+2]+s[i:i+1]+s[i+2:])
			}
		}
	}
}

// P4.2: the check sum is that of all bytes ahead, the lowest byte first, and all its bits turned over.
func TestDecodeOtherSums(t *testing.T) {
	for _, s := range some(t) {
		body, crc := s[:len(s)-4], []byte(s[len(s)-4:])
		none(t, body+string([]byte{crc[3], crc[2], crc[1], crc[0]}))
		none(t, body+string([]byte{^crc[0], ^crc[1], ^crc[2], ^crc[3]}))
		none(t, body+"\x00\x00\x00\x00")
		none(t, string(crc)+body)
	}
}

// P4.2: bytes whose check sum is right, but which no Encode gives.
func TestDecodeRightSum(t *testing.T) {
	high := strings.Repeat("\x80", 8)
	above := "\x81\x80\x80\x80\x80\x20" // 2^40 + 1
	for _, body := range []string{
		"\x80\x00\x00\x00\x00", // a last digit of 0: of Epoch
		"\x00\x80\x00\x00\x00", // of Seq
		"\x00\x00\x80\x00\x00", // of the flags
		"\x00\x00\x81\x00\x00", //
		"\x00\x00\x00\x80\x00", // of how many bytes
		"\x01\x02\x03\x81\x00a",
		"\xff\x80\x00\x00\x00\x00",
		above + "\x00\x00\x00", // above 2^40
		"\x00" + above + "\x00\x00",
		"\xff\xff\xff\xff\xff\x3f\x00\x00\x00",
		strings.Repeat("\xff", 7) + "\x7f\x00\x00\x00",
		"\x00" + strings.Repeat("\xff", 7) + "\x7f\x00\x00",
		high + "\x01\x00\x00\x00", // nine digits
		"\x00" + high + "\x01\x00\x00",
		"\x00\x00" + high + "\x01\x00",
		"\x00\x00\x00" + high + "\x01",
		"\x00\x00\x04\x00", // flags of 4 and more
		"\x00\x00\x05\x00",
		"\x00\x00\x07\x01a",
		"\x00\x00\x7f\x00",
		"\x00\x00\x80\x01\x00",
		"\x00\x00\x83\x01\x00",
		"\x00\x00\x80\x80\x80\x80\x10\x00",                    // flags of 2^32
		"\x00\x00\x00\x61" + strings.Repeat("d", 97),          // more than 96 bytes
		"\x00\x00\x03\x80\x01" + strings.Repeat("d", 128),     //
		"\x00\x00\x03\xe0\x00" + strings.Repeat("d", 96),      // 96 bytes, but a last digit of 0
		"\x00\x00\x00\x01",                                    // longer than what is left
		"\x00\x00\x00\x02a",                                   //
		"\x00\x00\x00\x05a",                                   // as long as that with the check sum
		"\x00\x00\x00\x04",                                    //
		"\x00\x00\x00\x60" + strings.Repeat("d", 95),          //
		"\x00\x00\x00" + strings.Repeat("\xff", 7) + "\x7fab", //
		"\x00\x00\x00\x00\x00",                                // more than there should be
		"\x00\x00\x00\x01ab",                                  //
	} {
		none(t, sealed(body))
	}
}

// P4.2, P4.4: of all short texts of some bytes, each with its check sum, just those are chunks that are numbers, flags and a text.
func TestDecodeAllShort(t *testing.T) {
	want := shortBodies(6)
	bodies := []string{""}
	for at := 0; at < len(bodies); at++ {
		body := bodies[at]
		c, err := Decode(sealed(body))
		if want[body] != (err == api.OK) {
			t.Fatalf("Decode of % x with its check sum is %+v, %d", body, c, err)
		}
		if err != api.OK {
			none(t, sealed(body))
		} else if s, err := Encode(c); s != sealed(body) || err != api.OK {
			t.Fatalf("Encode of what % x is decoded to is % x, %d", body, s, err)
		}
		if len(body) < 6 {
			for _, b := range alphabet {
				bodies = append(bodies, body+string([]byte{b}))
			}
		}
	}
}

// alphabet is what the short texts are made of.
var alphabet = []byte{0x00, 0x01, 0x02, 0x03, 0x04, 0x80, 0xff}

// shortBodies are all bytes of chunks, without the check sum, that are no longer than most and made of the alphabet.
func shortBodies(most int) map[string]bool {
	all := map[string]bool{}
	codes := shortCodes("", most-3)
	for _, epoch := range codes {
		for _, seq := range codes {
			for flags := range 4 {
				head := epoch + seq + string([]byte{byte(flags)})
				for n := range 5 {
					if len(head)+1+n <= most {
						addDatas(all, head+string([]byte{byte(n)}), n)
					}
				}
			}
		}
	}
	return all
}

// shortCodes are the numbers' codes that begin with start, of at most so many bytes behind it.
func shortCodes(start string, most int) []string {
	if most == 0 {
		return nil
	}
	codes := append(shortCodes(start+"\x80", most-1), shortCodes(start+"\xff", most-1)...)
	for b := range 5 {
		if b > 0 || start == "" {
			codes = append(codes, start+string([]byte{byte(b)}))
		}
	}
	return codes
}

// addDatas adds head with all that may stand behind it, n bytes of the alphabet.
func addDatas(all map[string]bool, head string, n int) {
	if n == 0 {
		all[head] = true
		return
	}
	for _, b := range alphabet {
		addDatas(all, head+string([]byte{b}), n-1)
	}
}

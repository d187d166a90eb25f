package pack

import (
	"strings"
	"testing"

	"cubby/api"
)

// left is what r has not taken yet.
func left(r *Reader) string { return r.rest }

// P2.2: numbers are taken from the first byte on, each with its code alone.
func TestReaderNumber(t *testing.T) {
	for _, x := range codes {
		for _, behind := range []string{"", "\x00", "\x80", "\xff\x01", "tail"} {
			r := Read(x.code + behind)
			if n, err := r.Number(); n != x.n || err != api.OK || left(r) != behind {
				t.Errorf("Number of % x: %d, %d, left % x; want %d, left % x", x.code+behind, n, err, left(r), x.n, behind)
			}
		}
	}
}

// P2.2: what is no number is told, and nothing is taken, however often it is asked for.
func TestReaderNumberWrong(t *testing.T) {
	high := strings.Repeat("\x80", 8)
	for _, x := range []struct {
		s    string
		want api.Errno
	}{
		{"", api.ErrShort},
		{"\x80", api.ErrShort},
		{"\xff", api.ErrShort},
		{"\x80\x80", api.ErrShort},
		{high[:7], api.ErrShort},
		{high, api.ErrShort},
		{strings.Repeat("\xff", 8), api.ErrShort},
		{"\x80\x00", api.ErrForm},
		{"\x80\x00\x01", api.ErrForm},
		{"\xff\x00", api.ErrForm},
		{"\x80\x80\x00", api.ErrForm},
		{high[:7] + "\x00", api.ErrForm},
		{high + "\x00", api.ErrForm},
		{high + "\x01", api.ErrForm},
		{high + "\x7f", api.ErrForm},
		{high + "\x80", api.ErrForm},
		{high + "\xff", api.ErrForm},
		{high + "\x80\x01", api.ErrForm},
		{strings.Repeat("\xff", 9), api.ErrForm},
		{strings.Repeat("\xff", 100), api.ErrForm},
	} {
		r := Read(x.s)
		for range 2 {
			if n, err := r.Number(); n != 0 || err != x.want || left(r) != x.s {
				t.Errorf("Number of % x: %d, %d, left % x; want error %d", x.s, n, err, left(r), x.want)
			}
		}
	}
}

// P2.2: each beginning of a code is too short, and taken nothing of.
func TestReaderNumberBeginnings(t *testing.T) {
	for _, x := range codes {
		for i := range len(x.code) {
			r := Read(x.code[:i])
			if n, err := r.Number(); n != 0 || err != api.ErrShort || left(r) != x.code[:i] {
				t.Errorf("Number of % x: %d, %d, left % x; want ErrShort", x.code[:i], n, err, left(r))
			}
		}
	}
}

// P2.2: a text is taken with its number, and no byte of what is behind it.
func TestReaderText(t *testing.T) {
	for _, s := range texts() {
		for _, behind := range []string{"", "\x00", "\xff", "tail"} {
			r := Read(textOf(s) + behind)
			if got, err := r.Text(); got != s || err != api.OK || left(r) != behind {
				t.Errorf("Text of %q is %q, %d, left %q", s, got, err, left(r))
			}
		}
	}
}

// P2.2: a text's number may be wrong, or there are not so many bytes: nothing is taken, the number neither.
func TestReaderTextWrong(t *testing.T) {
	for _, x := range []struct {
		s    string
		want api.Errno
	}{
		{"", api.ErrShort},
		{"\x80", api.ErrShort},
		{"\x80\x00", api.ErrForm},
		{strings.Repeat("\x80", 8) + "\x01", api.ErrForm},
		{"\x01", api.ErrShort},
		{"\x02a", api.ErrShort},
		{"\x03\x01\x01", api.ErrShort},
		{"\x80\x01" + strings.Repeat("x", 127), api.ErrShort},
		{codeOf(most), api.ErrShort},
		{codeOf(most) + "abc", api.ErrShort},
		{codeOf(1<<31) + "abc", api.ErrShort},
	} {
		r := Read(x.s)
		for range 2 {
			if s, err := r.Text(); s != "" || err != x.want || left(r) != x.s {
				t.Errorf("Text of %q: %q, %d, left %q; want error %d", x.s, s, err, left(r), x.want)
			}
		}
	}
}

// P2.2: behind an error what is there may yet be taken otherwise.
func TestReaderBehindAnError(t *testing.T) {
	r := Read("\x05\x01b")
	if _, err := r.Text(); err != api.ErrShort {
		t.Fatalf("Text: %d, want ErrShort", err)
	}
	if n, err := r.Number(); n != 5 || err != api.OK {
		t.Fatalf("Number behind it: %d, %d, want 5", n, err)
	}
	if s, err := r.Text(); s != "b" || err != api.OK {
		t.Fatalf("Text behind it: %q, %d, want b", s, err)
	}
	if err := r.End(); err != api.OK {
		t.Fatalf("End behind it: %d", err)
	}
}

// P2.2: End tells of a byte that is left, and takes none.
func TestReaderEnd(t *testing.T) {
	for _, s := range []string{"\x00", "a", "\x80", "\xff\xff"} {
		r := Read(s)
		if err := r.End(); err != api.ErrForm || left(r) != s {
			t.Errorf("End of %q: %d, left %q; want ErrForm", s, err, left(r))
		}
	}
	r := Read("")
	if a, b := r.End(), r.End(); a != api.OK || b != api.OK {
		t.Errorf("End of nothing: %d, %d", a, b)
	}
}

// R3: two Readers of one text have nothing in common.
func TestReadersApart(t *testing.T) {
	s := textOf("one")
	a, b := Read(s), Read(s)
	a.Text()
	if a.End() != api.OK || b.End() != api.ErrForm {
		t.Errorf("a Reader took what another one has")
	}
}

// P2.4: what is written is read back, number by number, text by text.
func TestReadBack(t *testing.T) {
	var w Writer
	for _, s := range texts() {
		w.Text(s)
		for _, x := range codes {
			w.Number(x.n)
		}
	}
	r := Read(w.Bytes())
	for _, s := range texts() {
		if got, err := r.Text(); got != s || err != api.OK {
			t.Fatalf("Text is %q, %d, want %q", got, err, s)
		}
		for _, x := range codes {
			if n, err := r.Number(); n != x.n || err != api.OK {
				t.Fatalf("Number is %d, %d, want %d", n, err, x.n)
			}
		}
	}
	if err := r.End(); err != api.OK {
		t.Errorf("End: %d", err)
	}
}

// P2.4: of all texts of few bytes, those that are a number are its code, and no other is.
func TestNumbersHaveOneCode(t *testing.T) {
	ends := []byte{0x00, 0x01, 0x02, 0x7f, 0x80, 0x81, 0xfe, 0xff}
	all := []string{""}
	for at := 0; len(all[at]) < 5; at++ {
		for _, b := range ends {
			all = append(all, all[at]+string([]byte{b}))
		}
	}
	of := map[int]string{}
	for _, s := range all {
		r := Read(s)
		n, err := r.Number()
		if err != api.OK || r.End() != api.OK {
			continue
		}
		if other, ok := of[n]; ok || codeOf(n) != s {
			t.Fatalf("% x and % x are both %d", s, other, n)
		}
		of[n] = s
	}
	if len(of) == 0 {
		t.Error("no text is a number")
	}
}

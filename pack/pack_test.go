package pack

import (
	"math"
	"strings"
	"testing"
)

const most = 72057594037927935 // 2^56 - 1

// codes are numbers and their codes: the chapter's examples, and the edges of each count of digits.
var codes = []struct {
	n    int
	code string
}{
	{0, "\x00"},
	{1, "\x01"},
	{127, "\x7f"},
	{128, "\x80\x01"},
	{129, "\x81\x01"},
	{255, "\xff\x01"},
	{256, "\x80\x02"},
	{300, "\xac\x02"},
	{1<<14 - 1, "\xff\x7f"},
	{1 << 14, "\x80\x80\x01"},
	{1<<21 - 1, "\xff\xff\x7f"},
	{1 << 21, "\x80\x80\x80\x01"},
	{1<<49 - 1, "\xff\xff\xff\xff\xff\xff\x7f"},
	{1 << 49, "\x80\x80\x80\x80\x80\x80\x80\x01"},
	{most - 1, "\xfe\xff\xff\xff\xff\xff\xff\x7f"},
	{most, "\xff\xff\xff\xff\xff\xff\xff\x7f"},
}

// texts are what is written as texts: the empty one, ordinary ones, zero bytes, bytes above 127, lengths about the edge of a digit.
func texts() []string {
	return []string{
		"", "a", "key", "\x00", "\x00\x00", "\x80", "\xff\xff", "\xc3\xa9", "\xc3", "\n ",
		strings.Repeat("x", 127), strings.Repeat("y", 128), strings.Repeat("\xff", 129),
		strings.Repeat("\x80", 1<<14), strings.Repeat("long ", 1000),
	}
}

func codeOf(n int) string {
	var w Writer
	w.Number(n)
	return w.Bytes()
}

func textOf(s string) string {
	var w Writer
	w.Text(s)
	return w.Bytes()
}

// P2.1: a number's code, by the chapter's examples and at the edges.
func TestWriterNumber(t *testing.T) {
	for _, x := range codes {
		if got := codeOf(x.n); got != x.code {
			t.Errorf("code of %d is % x, want % x", x.n, got, x.code)
		}
	}
}

// P2.1: below 0 it counts as 0, above 2^56 - 1 as that.
func TestWriterNumberBeyond(t *testing.T) {
	for _, n := range []int{-1, -2, -128, -most, math.MinInt} {
		if got := codeOf(n); got != "\x00" {
			t.Errorf("code of %d is % x, want 00", n, got)
		}
	}
	for _, n := range []int{most + 1, most + 2, 1 << 57, 1<<62 + 5, math.MaxInt} {
		if got := codeOf(n); got != codeOf(most) {
			t.Errorf("code of %d is % x, want that of 2^56 - 1", n, got)
		}
	}
}

// P2.1: a text is how many bytes it has, not how many runes, and its bytes.
func TestWriterText(t *testing.T) {
	for _, x := range []struct{ s, want string }{
		{"", "\x00"},
		{"a", "\x01a"},
		{"abc", "\x03abc"},
		{"\x00", "\x01\x00"},
		{"\xc3\xa9", "\x02\xc3\xa9"},
		{"\xff\x80", "\x02\xff\x80"},
		{strings.Repeat("x", 127), "\x7f" + strings.Repeat("x", 127)},
		{strings.Repeat("x", 128), "\x80\x01" + strings.Repeat("x", 128)},
		{strings.Repeat("x", 300), "\xac\x02" + strings.Repeat("x", 300)},
	} {
		if got := textOf(x.s); got != x.want {
			t.Errorf("Text(%q) put %q, want %q", x.s, got, x.want)
		}
	}
}

// P2.1: a zero value has no bytes; all that was put is told, in its order, as often as it is asked for.
func TestWriterBytes(t *testing.T) {
	var w Writer
	if got := w.Bytes(); got != "" {
		t.Fatalf("a Writer's zero value has %q", got)
	}
	w.Number(300)
	first := w.Bytes()
	w.Text("ab")
	w.Text("")
	w.Number(-1)
	w.Number(0)
	if got, want := w.Bytes(), "\xac\x02\x02ab\x00\x00\x00"; got != want || w.Bytes() != want {
		t.Errorf("Bytes() is %q, want %q", got, want)
	}
	if first != "\xac\x02" {
		t.Errorf("what Bytes told became %q", first)
	}
}

// R3: two Writers have nothing in common, not even if one began as a copy.
func TestWritersApart(t *testing.T) {
	var v, w Writer
	v.Text("v")
	w.Text("w")
	copied := v
	v.Number(1)
	copied.Number(2)
	copied.Text("more")
	v.Number(3)
	for _, x := range []struct{ got, want string }{
		{v.Bytes(), "\x01v\x01\x03"}, {w.Bytes(), "\x01w"}, {copied.Bytes(), "\x01v\x02\x04more"},
	} {
		if x.got != x.want {
			t.Errorf("a Writer has %q, want %q", x.got, x.want)
		}
	}
}

package text

import (
	"reflect"
	"strings"
	"testing"

	"cubby/api"
)

func refuses(t *testing.T, s string, wantLine int, want api.Errno) {
	t.Helper()
	if f, line, err := Parse(s); !reflect.DeepEqual(f, api.Func{}) || line != wantLine || err != want {
		t.Errorf("Parse(%q): %v, %d, %d instead of %d, %d", s, f, line, err, wantLine, want)
	}
}

func refusesCode(t *testing.T, s string, wantLine int, want api.Errno) {
	t.Helper()
	if c, line, err := ParseCode(s); !reflect.DeepEqual(c, api.Code{}) || line != wantLine || err != want {
		t.Errorf("ParseCode(%q): %v, %d, %d instead of %d, %d", s, c, line, err, wantLine, want)
	}
}

// P8.2: a first line alone, blocks without instructions, several blocks; nothing is asked of how the numbers hang together.
func TestParseShapes(t *testing.T) {
	f, line, err := Parse("func a 9 0\n")
	if f.Name != "a" || f.Params != 9 || f.Regs != 0 || len(f.Blocks) != 0 || line != 0 || err != api.OK {
		t.Errorf("%v, %d, %d", f, line, err)
	}
	c, line, err := ParseCode("code func 9 0 2147483647\n")
	if c.Name != "func" || c.Params != 9 || c.Regs != 0 || c.Slots != most || len(c.Blocks) != 0 || line != 0 || err != api.OK {
		t.Errorf("%v, %d, %d", c, line, err)
	}
	f, line, err = Parse(text("func block 1 2", "block", "block", "out 0", "block", "ret 5", "out 6", "block"))
	if f.Name != "block" || len(f.Blocks) != 4 || line != 0 || err != api.OK {
		t.Fatalf("%v, %d, %d", f, line, err)
	}
	if len(f.Blocks[0]) != 0 || len(f.Blocks[3]) != 0 || !reflect.DeepEqual(f.Blocks[1], []api.Ins{{Op: api.Out}}) ||
		!reflect.DeepEqual(f.Blocks[2], []api.Ins{{Op: api.Ret, A: 5}, {Op: api.Out, A: 6}}) {
		t.Errorf("%v", f)
	}
}

// P8.2: the empty text.
func TestParseEmpty(t *testing.T) {
	refuses(t, "", 1, api.ErrWord)
	refusesCode(t, "", 1, api.ErrWord)
}

// P8.2: the first line is of its kind, and stands nowhere else; the second one is a block.
func TestParseFirstLines(t *testing.T) {
	refuses(t, "\n", 1, api.ErrWord)
	refuses(t, "code f 1 2 3\n", 1, api.ErrWord)
	refuses(t, "code f 1 2\n", 1, api.ErrWord)
	refuses(t, "block\n", 1, api.ErrWord)
	refuses(t, "ret 0\n", 1, api.ErrWord)
	refuses(t, " func f 1 2\n", 1, api.ErrWord)
	refuses(t, "funcs f 1 2\n", 1, api.ErrWord)
	refuses(t, "FUNC f 1 2\n", 1, api.ErrWord)
	refuses(t, text("func f 1 2", "ret 0"), 2, api.ErrWord)
	refuses(t, text("func f 1 2", "func f 1 2"), 2, api.ErrWord)
	refuses(t, text("func f 1 2", ""), 2, api.ErrWord)
	refuses(t, text("func f 1 2", "block", "func f 1 2"), 3, api.ErrWord)
	refuses(t, text("func f 1 2", "block", "code f 1 2 3"), 3, api.ErrWord)
	refusesCode(t, "func f 1 2\n", 1, api.ErrWord)
	refusesCode(t, "func f 1 2 3\n", 1, api.ErrWord)
	refusesCode(t, "block\n", 1, api.ErrWord)
	refusesCode(t, text("code f 1 2 3", "fetch 0 0"), 2, api.ErrWord)
	refusesCode(t, text("code f 1 2 3", "code f 1 2 3"), 2, api.ErrWord)
	refusesCode(t, text("code f 1 2 3", "block", "code f 1 2 3"), 3, api.ErrWord)
	refusesCode(t, text("code f 1 2 3", "block", "func f 1 2"), 3, api.ErrWord)
}

// P8.2: first words that are none of the table, or may not stand there.
func TestParseFirstWords(t *testing.T) {
	for _, line := range []string{"", " ", "nop", "Ret 0", "ret\t0", "ret0", " ret 0", "0", "fn", "cons 0 0", "block\r", "return 0", "\x00"} {
		refuses(t, text("func f 1 2", "block", "out 0", line, "ret 0"), 4, api.ErrWord)
		refusesCode(t, text("code f 1 2 3", "block", "out 0", line, "ret 0"), 4, api.ErrWord)
	}
	refuses(t, text("func f 1 2", "block", "fetch 0 0"), 3, api.ErrWord)
	refuses(t, text("func f 1 2", "block", "save 0 0"), 3, api.ErrWord)
}

// P8.2: too few and too many words of each line; a blank too many is an empty word more.
func TestParseCounts(t *testing.T) {
	heads := []string{"func f 1 2", "func f 1", "func f", "func", "func f 1 2 3", "func  f 1 2", "func f 1 2 "}
	for _, head := range heads[1:] {
		refuses(t, text(head, "block"), 1, api.ErrWord)
	}
	for _, head := range []string{"code", "code f", "code f 1 2", "code f 1 2 3 4", "code f 1 2 3 "} {
		refusesCode(t, text(head, "block"), 1, api.ErrWord)
	}
	for _, c := range append(shared, inCode...) {
		words := strings.Split(c.line, " ")
		for n := 1; n < len(words); n++ {
			refusesCode(t, text("code f 1 2 3", "block", strings.Join(words[:n], " ")), 3, api.ErrWord)
		}
		for _, more := range []string{" 0", " ", " g", " 0 0"} {
			refusesCode(t, text("code f 1 2 3", "block", c.line+more), 3, api.ErrWord)
		}
	}
	for _, c := range shared {
		refuses(t, text("func f 1 2", "block", c.line+" 0"), 3, api.ErrWord)
		refuses(t, text("func f 1 2", "block", c.line[:strings.LastIndex(c.line, " ")]), 3, api.ErrWord)
	}
	for _, line := range []string{"call", "call 0", "call ?", "block 0", "block "} {
		refuses(t, text("func f 1 2", "block", line), 3, api.ErrWord)
		refusesCode(t, text("code f 1 2 3", "block", line), 3, api.ErrWord)
	}
	refuses(t, text("func f 1 2", "block 0"), 2, api.ErrWord)
	refusesCode(t, text("code f 1 2 3", "block", "call 0 g"), 3, api.ErrWord)
}

// P8.2: words that are to be names, and are none.
func TestParseNames(t *testing.T) {
	for _, name := range []string{"", "0", "0a", "abcdefghijklm", "A", "é", "a-", "\t", "a\r"} {
		refuses(t, text("func "+name+" 1 2", "block"), 1, api.ErrWord)
		refusesCode(t, text("code "+name+" 1 2 3", "block"), 1, api.ErrWord)
		refuses(t, text("func f 1 2", "block", "call 0 "+name), 3, api.ErrWord)
		refuses(t, text("func f 1 2", "block", "call 0 "+name+" 1"), 3, api.ErrWord)
		refusesCode(t, text("code f 1 2 3", "block", "call 0 "+name+" 1"), 3, api.ErrWord)
	}
}

// P8.2: words that are to be numbers, and are none, in each place of each line.
func TestParseNumbers(t *testing.T) {
	for _, n := range []string{
		"", "a", "-1", "+1", "-0", "00", "01", "1a", "0x1", "1_0", "1.0", "1e3", "\t1", "1\r", "٣",
		"2147483648", "4294967296", "9223372036854775808", "18446744073709551616", strings.Repeat("9", 300),
	} {
		for _, c := range append(shared, inFunctions...) {
			for _, line := range withWord(c.line, n) {
				refuses(t, text("func f 1 2", "block", line, "?"), 3, api.ErrNumber)
			}
		}
		for _, c := range append(shared, inCode...) {
			for _, line := range withWord(c.line, n) {
				refusesCode(t, text("code f 1 2 3", "block", line, "?"), 3, api.ErrNumber)
			}
		}
		for _, line := range withWord("func f 1 2", n) {
			refuses(t, text(line, "?"), 1, api.ErrNumber)
		}
		for _, line := range withWord("code f 1 2 3", n) {
			refusesCode(t, text(line, "?"), 1, api.ErrNumber)
		}
	}
}

// withWord are line with w instead of each of its numbers.
func withWord(line, w string) []string {
	var list []string
	words := strings.Split(line, " ")
	for i, word := range words {
		if _, ok := number(word); ok {
			other := append([]string{}, words...)
			other[i] = w
			list = append(list, strings.Join(other, " "))
		}
	}
	return list
}

// P8.2: the last line has no line feed behind it.
func TestParseLineFeed(t *testing.T) {
	refuses(t, "func f 1 2", 1, api.ErrWord)
	refuses(t, "func f x y", 1, api.ErrWord)
	refuses(t, "func f 1 2\nblock", 2, api.ErrWord)
	refuses(t, strings.TrimSuffix(plusSevenText, "\n"), 5, api.ErrWord)
	refuses(t, "func f 1 2\nblock\nret x", 3, api.ErrWord)
	refuses(t, "func f 1 2\nblock\n ", 3, api.ErrWord)
	refuses(t, "func f x 2\nblock", 1, api.ErrNumber)
	refuses(t, "func f 1 2\nblock\nret 0\n\n", 4, api.ErrWord)
	refuses(t, "func f 1 2\r\nblock\r\n", 1, api.ErrNumber)
	refusesCode(t, "code f 1 2 3", 1, api.ErrWord)
	refusesCode(t, "code f 1 2 3\nblock\nsave 0 x", 3, api.ErrWord)
}

// P8.2: the first line that is wrong; within it the first word, then how many there are, then the others from the left.
func TestParseFirstError(t *testing.T) {
	refuses(t, text("func f 1 2", "block", "ret x", "nop"), 3, api.ErrNumber)
	refuses(t, text("func f 1 2", "block", "nop", "ret x"), 3, api.ErrWord)
	refuses(t, text("func f 1 x", "nop"), 1, api.ErrNumber)
	refuses(t, text("func f 1 2", "block", "ret x 0"), 3, api.ErrWord)
	refuses(t, text("func f x"), 1, api.ErrWord)
	refuses(t, text("func ? x 2"), 1, api.ErrWord)
	refuses(t, text("func f x y"), 1, api.ErrNumber)
	refuses(t, text("func f 1 2", "block", "call x ?"), 3, api.ErrNumber)
	refuses(t, text("func f 1 2", "block", "call 0 ? x"), 3, api.ErrWord)
	refuses(t, text("func f 1 2", "block", "call x"), 3, api.ErrWord)
	refusesCode(t, text("code f 1 2 3", "block", "call x ? 0"), 3, api.ErrNumber)
	refusesCode(t, text("code f 1 2 3", "block", "call 0 ? x"), 3, api.ErrWord)
	refusesCode(t, text("code f 1 2 3", "block", "call x ?"), 3, api.ErrWord)
}

// R3: no two lists of an answer share memory, their spare room neither, nor do two answers.
func TestParseNewMemory(t *testing.T) {
	s := text("func f 1 2", "block", "call 0 g 1", "call 0 g 2 3", "ret 0", "block", "out 1", "block", "out 2", "block")
	want, _, _ := Parse(s)
	f, _, _ := Parse(s)
	_ = append(f.Blocks, []api.Ins{{Op: -9}})
	for _, ins := range f.Blocks {
		_ = append(ins, api.Ins{Op: -9})
		for _, x := range ins {
			_ = append(x.Args, -9)
		}
	}
	if !reflect.DeepEqual(f, want) {
		t.Errorf("%v instead of %v", f, want)
	}
	for _, ins := range f.Blocks {
		for i := range ins {
			for j := range ins[i].Args {
				ins[i].Args[j] = -9
			}
			ins[i] = api.Ins{Op: -9}
		}
	}
	if again, _, _ := Parse(s); !reflect.DeepEqual(again, want) {
		t.Errorf("%v instead of %v", again, want)
	}
}

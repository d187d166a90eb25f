package text

import (
	"fmt"
	"math/rand"
	"reflect"
	"regexp"
	"strings"
	"testing"

	"cubby/api"
)

// The chapter's table once more: the words behind each first word, n a number, N a name, * any many numbers.
var (
	inBoth = map[string]string{
		"const": "nn", "copy": "nn", "load": "nn", "add": "nnn", "sub": "nnn", "mul": "nnn", "less": "nnn", "div": "nnn",
		"store": "nn", "out": "n", "jump": "n", "ret": "n", "branch": "nnn", "block": "",
	}
	funcsAlone = map[string]string{"func": "Nnn", "call": "nN*"}
	codeAlone  = map[string]string{"code": "Nnnn", "call": "nNn", "fetch": "nn", "save": "nn"}

	aName   = regexp.MustCompile(`^[a-z][a-z0-9]{0,11}$`)
	aNumber = regexp.MustCompile(`^(0|[1-9][0-9]{0,9})$`)
)

// firstWrong is the first line that is wrong, and its error, by the chapter's words.
func firstWrong(s, first string, alone map[string]string) (int, api.Errno) {
	if s == "" {
		return 1, api.ErrWord
	}
	all := strings.SplitAfter(s, "\n")
	if all[len(all)-1] == "" {
		all = all[:len(all)-1]
	}
	for i, line := range all {
		if err := wrong(line, i+1, first, alone); err != api.OK {
			return i + 1, err
		}
	}
	return 0, api.OK
}

func wrong(line string, n int, first string, alone map[string]string) api.Errno {
	if !strings.HasSuffix(line, "\n") {
		return api.ErrWord
	}
	words := strings.Split(line[:len(line)-1], " ")
	what, ok := alone[words[0]]
	if !ok {
		what, ok = inBoth[words[0]]
	}
	if !ok || (words[0] == first) != (n == 1) || n == 2 && words[0] != "block" {
		return api.ErrWord
	}
	words = words[1:]
	if begin, ok := strings.CutSuffix(what, "*"); ok && len(words) >= len(begin) {
		what = begin + strings.Repeat("n", len(words)-len(begin))
	}
	if len(words) != len(what) {
		return api.ErrWord
	}
	for i, w := range words {
		if what[i] == 'N' && !aName.MatchString(w) {
			return api.ErrWord
		}
		if what[i] == 'n' && (!aNumber.MatchString(w) || len(w) == 10 && w > "2147483647") {
			return api.ErrNumber
		}
	}
	return api.OK
}

// some is one of list.
func some[T any](r *rand.Rand, list ...T) T { return list[r.Intn(len(list))] }

func someNumber(r *rand.Rand) int { return some(r, 0, 1, 9, 10, 65535, most-1, most, r.Intn(100)) }

func someName(r *rand.Rand) string { return some(r, "a", "f", "g0", "ret", "block", "abcdefghij09") }

// someIns has a number in each of its fields, also where its line has none.
func someIns(r *rand.Rand, ops ...int) api.Ins {
	x := api.Ins{Op: some(r, ops...), D: someNumber(r), A: someNumber(r), B: someNumber(r), Name: someName(r)}
	for range r.Intn(4) {
		x.Args = append(x.Args, someNumber(r))
	}
	return x
}

func someBlocks(r *rand.Rand, ops ...int) [][]api.Ins {
	var blocks [][]api.Ins
	for range r.Intn(4) {
		var ins []api.Ins
		for range r.Intn(5) {
			ins = append(ins, someIns(r, ops...))
		}
		blocks = append(blocks, ins)
	}
	return blocks
}

var opsOfFunctions = []int{1, 2, 3, 4, 5, 6, 7, 8, 9, 10, 11, 12, 13, 14}

func someFunc(r *rand.Rand) api.Func {
	return api.Func{Name: someName(r), Params: someNumber(r), Regs: someNumber(r), Blocks: someBlocks(r, opsOfFunctions...)}
}

func someCode(r *rand.Rand) api.Code {
	return api.Code{Name: someName(r), Params: someNumber(r), Regs: someNumber(r), Slots: someNumber(r),
		Blocks: someBlocks(r, append([]int{api.Fetch, api.Save}, opsOfFunctions...)...)}
}

// bare is x without what its line does not have.
func bare(x api.Ins, inCode bool) api.Ins {
	b := api.Ins{Op: x.Op, D: x.D, A: x.A, B: x.B}
	switch x.Op {
	case api.Const, api.Copy, api.Load, api.Fetch, api.Save:
		b.B = 0
	case api.Store:
		b.D = 0
	case api.Out, api.Jump, api.Ret:
		b.D, b.B = 0, 0
	case api.Call:
		b.Name, b.B = x.Name, 0
		if !inCode {
			b.A, b.Args = 0, x.Args
		}
	}
	return b
}

func bareBlocks(blocks [][]api.Ins, inCode bool) [][]api.Ins {
	var list [][]api.Ins
	for _, ins := range blocks {
		var some []api.Ins
		for _, x := range ins {
			some = append(some, bare(x, inCode))
		}
		list = append(list, some)
	}
	return list
}

// same holds two values against each other, a list without elements being nil or not.
func same(a, b any) bool { return fmt.Sprint(a) == fmt.Sprint(b) }

// P8.3: what is printed is parsed back, but what its lines do not have; and what is parsed is printed as it was.
func TestBack(t *testing.T) {
	r := rand.New(rand.NewSource(8))
	for range 2000 {
		f := someFunc(r)
		s, err := Print(f)
		if err != api.OK {
			t.Fatalf("%v: %d", f, err)
		}
		g, line, err := Parse(s)
		f.Blocks = bareBlocks(f.Blocks, false)
		if !same(g, f) || line != 0 || err != api.OK {
			t.Fatalf("%q: %v, %d, %d instead of %v", s, g, line, err, f)
		}
		if again, err := Print(g); again != s || err != api.OK {
			t.Fatalf("%q, %d instead of %q", again, err, s)
		}
		c := someCode(r)
		if s, err = PrintCode(c); err != api.OK {
			t.Fatalf("%v: %d", c, err)
		}
		d, line, err := ParseCode(s)
		c.Blocks = bareBlocks(c.Blocks, true)
		if !same(d, c) || line != 0 || err != api.OK {
			t.Fatalf("%q: %v, %d, %d instead of %v", s, d, line, err, c)
		}
		if again, err := PrintCode(d); again != s || err != api.OK {
			t.Fatalf("%q, %d instead of %q", again, err, s)
		}
	}
}

// spoil makes s another text, at one place or at none.
func spoil(r *rand.Rand, s string) string {
	if s == "" {
		return s
	}
	sep := some(r, "", " ", "\n")
	parts := strings.Split(s, sep)
	i := r.Intn(len(parts))
	other := some(r, "", "0", "00", "a", "?", "-", " ", "\n", "block", "func", "code", "ret", "fetch", "2147483648", "call 1 g", "\t")
	switch r.Intn(5) {
	case 0:
		parts = append(parts[:i], parts[i+1:]...)
	case 1:
		parts[i] = other
	case 2:
		parts[i] += sep + other
	case 3:
		parts = parts[:i]
	}
	return strings.Join(parts, sep)
}

// P8.2: texts of some functions and code, spoilt: what Parse and ParseCode tell is what the chapter's words say; what they take prints as just that text.
func TestSpoiltTexts(t *testing.T) {
	r := rand.New(rand.NewSource(82))
	kinds := map[string]int{}
	for range 20000 {
		s, _ := Print(someFunc(r))
		if r.Intn(2) == 0 {
			s, _ = PrintCode(someCode(r))
		}
		for range r.Intn(3) {
			s = spoil(r, s)
		}
		f, line, err := Parse(s)
		if wantLine, want := firstWrong(s, "func", funcsAlone); line != wantLine || err != want {
			t.Fatalf("Parse(%q): %d, %d instead of %d, %d", s, line, err, wantLine, want)
		}
		if back, _ := Print(f); err == api.OK && back != s || err != api.OK && !reflect.DeepEqual(f, api.Func{}) {
			t.Fatalf("Parse(%q): %v", s, f)
		}
		c, line, err2 := ParseCode(s)
		if wantLine, want := firstWrong(s, "code", codeAlone); line != wantLine || err2 != want {
			t.Fatalf("ParseCode(%q): %d, %d instead of %d, %d", s, line, err2, wantLine, want)
		}
		if back, _ := PrintCode(c); err2 == api.OK && back != s || err2 != api.OK && !reflect.DeepEqual(c, api.Code{}) {
			t.Fatalf("ParseCode(%q): %v", s, c)
		}
		kinds[fmt.Sprint(err, err2)]++
	}
	if len(kinds) < 5 {
		t.Errorf("the texts came to too little: %v", kinds)
	}
}

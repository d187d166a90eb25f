package text

import (
	"math"
	"reflect"
	"strings"
	"testing"

	"cubby/api"
)

// most is the greatest number that is written.
const most = math.MaxInt32

// text is lines, each with its line feed.
func text(lines ...string) string { return strings.Join(lines, "\n") + "\n" }

// plusSeven is the chapter's example, f(a) = a + 7.
var plusSeven = api.Func{Name: "f", Params: 1, Regs: 2, Blocks: [][]api.Ins{{
	{Op: api.Const, D: 1, A: 7}, {Op: api.Add, D: 1, A: 0, B: 1}, {Op: api.Ret, A: 1},
}}}

var plusSevenText = text("func f 1 2", "block", "const 1 7", "add 1 0 1", "ret 1")

// shared are instructions that are written the same in functions and in code, each with its line.
var shared = []struct {
	x    api.Ins
	line string
}{
	{api.Ins{Op: api.Const, D: 1, A: 2}, "const 1 2"},
	{api.Ins{Op: api.Copy, D: 1, A: 2}, "copy 1 2"},
	{api.Ins{Op: api.Add, D: 1, A: 2, B: 3}, "add 1 2 3"},
	{api.Ins{Op: api.Sub, D: 1, A: 2, B: 3}, "sub 1 2 3"},
	{api.Ins{Op: api.Mul, D: 1, A: 2, B: 3}, "mul 1 2 3"},
	{api.Ins{Op: api.Less, D: 1, A: 2, B: 3}, "less 1 2 3"},
	{api.Ins{Op: api.Div, D: 1, A: 2, B: 3}, "div 1 2 3"},
	{api.Ins{Op: api.Load, D: 1, A: 2}, "load 1 2"},
	{api.Ins{Op: api.Store, A: 1, B: 2}, "store 1 2"},
	{api.Ins{Op: api.Out, A: 1}, "out 1"},
	{api.Ins{Op: api.Jump, A: 1}, "jump 1"},
	{api.Ins{Op: api.Branch, A: 1, B: 2, D: 3}, "branch 1 2 3"},
	{api.Ins{Op: api.Ret, A: 1}, "ret 1"},
	{api.Ins{Op: api.Const, D: 0, A: most}, "const 0 2147483647"},
}

var inFunctions = []struct {
	x    api.Ins
	line string
}{
	{api.Ins{Op: api.Call, D: 1, Name: "g"}, "call 1 g"},
	{api.Ins{Op: api.Call, D: 1, Name: "abcdefghij09", Args: []int{2}}, "call 1 abcdefghij09 2"},
	{api.Ins{Op: api.Call, D: most, Name: "g", Args: []int{5, most, 0, 3, 4, 9}}, "call 2147483647 g 5 2147483647 0 3 4 9"},
}

var inCode = []struct {
	x    api.Ins
	line string
}{
	{api.Ins{Op: api.Call, D: 1, Name: "g", A: 2}, "call 1 g 2"},
	{api.Ins{Op: api.Fetch, D: 1, A: 2}, "fetch 1 2"},
	{api.Ins{Op: api.Save, D: 1, A: 2}, "save 1 2"},
}

func funcOf(blocks ...[]api.Ins) api.Func {
	return api.Func{Name: "f", Params: 1, Regs: 2, Blocks: blocks}
}

func codeOf(blocks ...[]api.Ins) api.Code {
	return api.Code{Name: "f", Params: 1, Regs: 2, Slots: 3, Blocks: blocks}
}

func prints(t *testing.T, f api.Func, wantText string, wantErr api.Errno) {
	t.Helper()
	if s, err := Print(f); s != wantText || err != wantErr {
		t.Errorf("Print(%v): %q, %d instead of %q, %d", f, s, err, wantText, wantErr)
	}
}

func printsCode(t *testing.T, c api.Code, wantText string, wantErr api.Errno) {
	t.Helper()
	if s, err := PrintCode(c); s != wantText || err != wantErr {
		t.Errorf("PrintCode(%v): %q, %d instead of %q, %d", c, s, err, wantText, wantErr)
	}
}

// P8.1, P8.2: the chapter's example.
func TestExample(t *testing.T) {
	prints(t, plusSeven, plusSevenText, api.OK)
	f, line, err := Parse(plusSevenText)
	if !reflect.DeepEqual(f, plusSeven) || line != 0 || err != api.OK {
		t.Errorf("%v, %d, %d", f, line, err)
	}
}

// P8.1, P8.2: each instruction's line, in functions and in code, there and back.
func TestEachInstruction(t *testing.T) {
	for _, c := range append(shared, inFunctions...) {
		f := funcOf([]api.Ins{c.x})
		want := text("func f 1 2", "block", c.line)
		prints(t, f, want, api.OK)
		if g, line, err := Parse(want); !reflect.DeepEqual(g, f) || line != 0 || err != api.OK {
			t.Errorf("%s: %v, %d, %d", c.line, g, line, err)
		}
	}
	for _, c := range append(shared, inCode...) {
		f := codeOf([]api.Ins{c.x})
		want := text("code f 1 2 3", "block", c.line)
		printsCode(t, f, want, api.OK)
		if g, line, err := ParseCode(want); !reflect.DeepEqual(g, f) || line != 0 || err != api.OK {
			t.Errorf("%s: %v, %d, %d", c.line, g, line, err)
		}
	}
}

// P8.1: block by block, also of no blocks and of blocks without instructions; nothing else is looked at than names, Ops and numbers.
func TestPrintShapes(t *testing.T) {
	out, ret := api.Ins{Op: api.Out}, api.Ins{Op: api.Ret, A: 77}
	prints(t, api.Func{Name: "0"}, "", api.ErrWord)
	prints(t, api.Func{Name: "a"}, "func a 0 0\n", api.OK)
	prints(t, api.Func{Name: "a", Params: most, Regs: most}, "func a 2147483647 2147483647\n", api.OK)
	prints(t, funcOf(nil), text("func f 1 2", "block"), api.OK)
	prints(t, funcOf(nil, []api.Ins{ret, out}, []api.Ins{}, []api.Ins{out}),
		text("func f 1 2", "block", "block", "ret 77", "out 0", "block", "block", "out 0"), api.OK)
	printsCode(t, api.Code{Name: "a"}, "code a 0 0 0\n", api.OK)
	printsCode(t, api.Code{Name: "a", Params: 9, Regs: 8, Slots: most}, "code a 9 8 2147483647\n", api.OK)
	printsCode(t, codeOf([]api.Ins{ret}, nil, []api.Ins{out, ret}),
		text("code f 1 2 3", "block", "ret 77", "block", "block", "out 0", "ret 77"), api.OK)
}

// P8.1: a Name that is none, the text's own or a Call's.
func TestPrintNames(t *testing.T) {
	for _, name := range []string{"", "0a", "abcdefghijklm", "A", "a b", "a\n", "é", "a-", " a"} {
		f, c := funcOf(), codeOf()
		f.Name, c.Name = name, name
		prints(t, f, "", api.ErrWord)
		printsCode(t, c, "", api.ErrWord)
		call := []api.Ins{{Op: api.Call, Name: name}}
		prints(t, funcOf(nil, call), "", api.ErrWord)
		printsCode(t, codeOf(nil, call), "", api.ErrWord)
	}
}

// P8.1: an Op that is none, or none that may stand there.
func TestPrintOps(t *testing.T) {
	for _, op := range []int{math.MinInt, -1, 0, 15, 20, 21, 22, 23, 257, math.MaxInt} {
		ins := []api.Ins{{Op: api.Ret}, {Op: op, Name: "g"}}
		prints(t, funcOf(ins), "", api.ErrWord)
		if op != api.Fetch && op != api.Save {
			printsCode(t, codeOf(ins), "", api.ErrWord)
		}
	}
}

// P8.1: each number that is to be written, at the edges of what it may be.
func TestPrintNumbers(t *testing.T) {
	for _, n := range []int{math.MinInt, math.MinInt32, -1, most + 1, math.MaxInt} {
		for _, f := range []api.Func{
			{Name: "f", Params: n}, {Name: "f", Regs: n},
			funcOf([]api.Ins{{Op: api.Call, Name: "g", D: n}}),
			funcOf([]api.Ins{{Op: api.Call, Name: "g", Args: []int{n}}}),
			funcOf([]api.Ins{{Op: api.Call, Name: "g", Args: []int{0, 0, 0, 0, n}}}),
		} {
			prints(t, f, "", api.ErrNumber)
		}
		for _, c := range []api.Code{
			{Name: "f", Params: n}, {Name: "f", Regs: n}, {Name: "f", Slots: n},
			codeOf([]api.Ins{{Op: api.Call, Name: "g", D: n}}),
			codeOf([]api.Ins{{Op: api.Call, Name: "g", A: n}}),
		} {
			printsCode(t, c, "", api.ErrNumber)
		}
		for _, c := range append(shared, inCode...) {
			for _, field := range []string{"D", "A", "B"} {
				x := c.x
				reflect.ValueOf(&x).Elem().FieldByName(field).SetInt(int64(n))
				want := api.OK
				// The lines of all these instructions have just the fields that are not 0 there.
				if x.Op == api.Const && field == "D" || reflect.ValueOf(c.x).FieldByName(field).Int() != 0 {
					want = api.ErrNumber
				}
				if _, err := PrintCode(codeOf([]api.Ins{x})); err != want {
					t.Errorf("%v: %d instead of %d", x, err, want)
				}
			}
		}
	}
}

// P8.1: what a line does not have is not asked.
func TestPrintAsksNothingElse(t *testing.T) {
	odd := []int{-1}
	prints(t, funcOf([]api.Ins{
		{Op: api.Const, B: -1, Name: "?", Args: odd}, {Op: api.Store, D: -1, Name: "?", Args: odd},
		{Op: api.Out, D: -1, B: most + 1, Name: "?", Args: odd}, {Op: api.Branch, Name: "?", Args: odd},
		{Op: api.Call, Name: "g", A: -1, B: -1},
	}), text("func f 1 2", "block", "const 0 0", "store 0 0", "out 0", "branch 0 0 0", "call 0 g"), api.OK)
	printsCode(t, codeOf([]api.Ins{
		{Op: api.Call, Name: "g", A: 4, B: -1, Args: odd}, {Op: api.Fetch, B: -1, Name: "?", Args: odd},
		{Op: api.Jump, D: -1, B: -1, Name: "?", Args: odd},
	}), text("code f 1 2 3", "block", "call 0 g 4", "fetch 0 0", "jump 0"), api.OK)
}

// P8.1: the first one that is wrong: line by line, the word ahead of the numbers, a name first.
func TestPrintFirstError(t *testing.T) {
	badWord, badNumber := api.Ins{Op: 99, D: -1}, api.Ins{Op: api.Ret, A: -1}
	prints(t, funcOf([]api.Ins{badWord, badNumber}), "", api.ErrWord)
	prints(t, funcOf([]api.Ins{badNumber, badWord}), "", api.ErrNumber)
	prints(t, funcOf([]api.Ins{badNumber}, []api.Ins{badWord}), "", api.ErrNumber)
	prints(t, funcOf([]api.Ins{badWord}, []api.Ins{badNumber}), "", api.ErrWord)
	prints(t, funcOf([]api.Ins{{Op: api.Call, D: -1, Name: "?"}}), "", api.ErrWord)
	prints(t, funcOf([]api.Ins{{Op: api.Call, D: -1, Name: "g"}, badWord}), "", api.ErrNumber)
	prints(t, funcOf([]api.Ins{{Op: api.Call, Name: "g", Args: []int{-1}}, {Op: api.Call}}), "", api.ErrNumber)
	prints(t, api.Func{Name: "?", Params: -1}, "", api.ErrWord)
	prints(t, api.Func{Name: "f", Params: -1, Blocks: [][]api.Ins{{badWord}}}, "", api.ErrNumber)
	prints(t, api.Func{Name: "?", Blocks: [][]api.Ins{{badNumber}}}, "", api.ErrWord)
	printsCode(t, codeOf([]api.Ins{badNumber, badWord}), "", api.ErrNumber)
	printsCode(t, codeOf([]api.Ins{badWord, badNumber}), "", api.ErrWord)
	printsCode(t, codeOf([]api.Ins{{Op: api.Call, D: -1, Name: "?"}}), "", api.ErrWord)
	printsCode(t, api.Code{Name: "?", Slots: -1}, "", api.ErrWord)
	printsCode(t, api.Code{Name: "f", Slots: -1, Blocks: [][]api.Ins{{badWord}}}, "", api.ErrNumber)
}

// R3: what is printed is left as it is, what lies behind its lists, too.
func TestPrintChangesNothing(t *testing.T) {
	args := []int{1, 2, 3}
	ins := []api.Ins{{Op: api.Call, Name: "g", Args: args[:2]}, {Op: api.Ret}, {Op: api.Out}}
	f := funcOf(ins[:2])
	Print(f)
	PrintCode(codeOf(ins[:2]))
	if !reflect.DeepEqual(args, []int{1, 2, 3}) || !reflect.DeepEqual(f, funcOf([]api.Ins{
		{Op: api.Call, Name: "g", Args: []int{1, 2}}, {Op: api.Ret},
	})) || ins[2].Op != api.Out {
		t.Errorf("%v, %v, %v", args, ins, f)
	}
}

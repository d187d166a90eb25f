package run

import (
	"math"
	"slices"
	"strconv"
	"strings"
	"testing"

	"cubby/api"
	"cubby/ir"
	"cubby/text"
)

const enough = 1 << 20

// module is the functions whose texts these are, a semicolon for each line feed.
func module(t *testing.T, sources ...string) []api.Func {
	t.Helper()
	var mod []api.Func
	for _, s := range sources {
		f, line, err := text.Parse(strings.ReplaceAll(s, "; ", "\n") + "\n")
		if err == api.OK {
			err = ir.Check(f)
		}
		if err != api.OK {
			t.Fatalf("%s: line %d, %d", s, line, err)
		}
		mod = append(mod, f)
	}
	return mod
}

// like holds an outcome against want, whose memory is that which begins with Mem.
func like(t *testing.T, got, want api.Outcome) {
	t.Helper()
	mem := make([]int, api.Memory)
	copy(mem, want.Mem)
	if got.Kind != want.Kind || got.Value != want.Value || got.Steps != want.Steps ||
		!slices.Equal(got.Told, want.Told) || !slices.Equal(got.Mem, mem) {
		want.Mem = mem
		t.Errorf("%+v instead of %+v", got, want)
	}
}

func ended(value, steps int, told ...int) api.Outcome {
	return api.Outcome{Kind: api.Ended, Value: value, Steps: steps, Told: told}
}

func trapped(steps int, told ...int) api.Outcome {
	return api.Outcome{Kind: api.Trap, Steps: steps, Told: told}
}

func ranOut(steps int, told ...int) api.Outcome {
	return api.Outcome{Kind: api.Fuel, Steps: steps, Told: told}
}

const plus7 = "func f 1 2; block; const 1 7; add 1 0 1; ret 1"

// P10.2: the chapter's example.
func TestRun(t *testing.T) {
	mod := module(t, plus7)
	like(t, Run(mod, "f", []int{65535}, nil, enough), ended(6, 3))
	like(t, Run(mod, "f", []int{0}, nil, enough), ended(7, 3))
}

// P10.2: the first call's values are words, whatever was handed in.
func TestRunArgs(t *testing.T) {
	mod := module(t, "func f 4 4; block; out 0; out 1; out 2; out 3; ret 3")
	like(t, Run(mod, "f", []int{-1, 65536, math.MinInt, 5}, nil, enough), ended(5, 5, 65535, 0, 0, 5))
	like(t, Run(mod, "f", []int{math.MaxInt, 1, 2, -65536}, nil, enough), ended(0, 5, 65535, 1, 2, 0))
}

// P10.2: each instruction with a register of its own, so that one that is another's would show.
func TestEachInstruction(t *testing.T) {
	for _, x := range []struct {
		ins  string
		want int
	}{
		{"const 0 65535", 65535},
		{"const 0 0", 0},
		{"copy 0 2", 20},
		{"copy 0 0", 9},
		{"add 0 2 1", 23},
		{"sub 0 2 1", 17},
		{"sub 0 1 2", 65519},
		{"mul 0 2 1", 60},
		{"less 0 1 2", 1},
		{"less 0 2 1", 0},
		{"less 0 2 2", 0},
		{"div 0 2 1", 6},
		{"div 0 1 2", 0},
		{"add 0 0 0", 18},
		{"load 0 1", 103},
		{"load 0 2", 120},
	} {
		mod := module(t, "func f 3 3; block; "+x.ins+"; out 1; out 2; ret 0")
		mem := make([]int, 40)
		for i := range mem {
			mem[i] = 100 + i
		}
		want := ended(x.want, 4, 3, 20)
		want.Mem = mem
		like(t, Run(mod, "f", []int{9, 3, 20}, mem, enough), want)
	}
}

// P10.2: registers are 0, but the first ones the values; in each call anew.
func TestRegisters(t *testing.T) {
	mod := module(t,
		"func f 2 6; block; out 0; out 1; out 2; out 5; ret 3",
		"func g 0 3; block; const 0 5; const 1 6; const 2 7; call 2 h; call 2 h; out 0; out 1; ret 2",
		"func h 0 3; block; out 0; out 1; out 2; const 0 8; const 1 8; const 2 8; ret 1")
	like(t, Run(mod, "f", []int{4, 5}, nil, enough), ended(0, 5, 4, 5, 0, 0))
	like(t, Run(mod, "g", nil, nil, enough), ended(8, 22, 0, 0, 0, 0, 0, 0, 5, 6))
	all := "func a 0 64; block"
	for i := range api.MaxRegs {
		all += "; out " + strconv.Itoa(i)
	}
	like(t, Run(module(t, all+"; ret 63"), "a", nil, nil, enough), ended(0, 65, make([]int, 64)...))
}

// P10.2: memory is Word of mem's elements, 0 behind its end, without what lies behind Memory.
func TestMemory(t *testing.T) {
	mod := module(t, "func f 1 2; block; load 1 0; ret 1")
	like(t, Run(mod, "f", []int{0}, nil, enough), ended(0, 2))
	want := ended(65535, 2)
	want.Mem = []int{65535, 0, 0, 3}
	like(t, Run(mod, "f", []int{0}, []int{-1, 65536, math.MinInt, -65533}, enough), want)
	long := make([]int, 5000)
	for i := range long {
		long[i] = i + 1
	}
	want = ended(256, 2)
	want.Mem = long[:256]
	like(t, Run(mod, "f", []int{255}, long, enough), want)
	want.Value = 1
	like(t, Run(mod, "f", []int{256}, long, enough), want)
	like(t, Run(mod, "f", []int{256 * 255}, long, enough), want)
	want.Value = 256
	like(t, Run(mod, "f", []int{65535}, long, enough), want)
}

// P10.2: Store at A what is in B, modulo Memory; calls have one memory.
func TestStore(t *testing.T) {
	mod := module(t,
		"func f 2 2; block; store 0 1; ret 0",
		"func g 2 3; block; store 0 1; call 2 h 0; load 1 0; ret 1",
		"func h 1 2; block; load 1 0; out 1; add 1 1 1; store 0 1; ret 0")
	want := ended(65535, 2)
	want.Mem = append(make([]int, 255), 77)
	like(t, Run(mod, "f", []int{65535, 77}, nil, enough), want)
	want = ended(258, 2)
	want.Mem = []int{1, 2, 65535, 4}
	like(t, Run(mod, "f", []int{258, 65535}, []int{1, 2, 3, 4}, enough), want)
	want = ended(42, 9, 21)
	want.Mem = []int{0, 42}
	like(t, Run(mod, "g", []int{257, 21}, nil, enough), want)
}

// P10.2: Jump, Branch to B, if A is not 0, else to D; each goes to the block's first instruction.
func TestBlocks(t *testing.T) {
	mod := module(t,
		"func f 1 2; block; branch 0 2 1; block; const 1 10; ret 1; block; const 1 20; ret 1",
		"func g 1 3; block; jump 2; block; out 1; ret 1; block; const 2 1; out 0; sub 0 0 2; branch 0 2 1",
		"func h 1 2; block; out 1; add 1 1 0; less 0 1 0; branch 0 0 1; block; jump 2; block; ret 1")
	like(t, Run(mod, "f", []int{0}, nil, enough), ended(10, 3))
	like(t, Run(mod, "f", []int{1}, nil, enough), ended(20, 3))
	like(t, Run(mod, "f", []int{32768}, nil, enough), ended(20, 3))
	like(t, Run(mod, "f", []int{65536}, nil, enough), ended(10, 3))
	like(t, Run(mod, "g", []int{3}, nil, enough), ended(0, 15, 3, 2, 1, 0))
	like(t, Run(mod, "h", []int{5}, nil, enough), ended(5, 6, 0))
}

// P10.2: Call with the values of Args, in their order; D becomes what is returned, also where it is one of them.
func TestCall(t *testing.T) {
	mod := module(t,
		"func f 2 5; block; call 3 g 1 0; call 0 g 0 0; call 4 k; out 0; out 3; out 4; ret 1",
		"func g 2 2; block; out 0; out 1; sub 0 0 1; ret 0",
		"func k 0 1; block; const 0 77; ret 0",
		"func m 4 5; block; call 4 n 3 2 1 0; ret 4",
		"func n 4 4; block; out 0; out 1; out 2; out 3; ret 2")
	like(t, Run(mod, "f", []int{3, 10}, nil, enough), ended(10, 17, 10, 3, 3, 3, 0, 7, 77))
	like(t, Run(mod, "m", []int{1, 2, 3, 4}, nil, enough), ended(2, 7, 4, 3, 2, 1))
}

// P10.2: the function is the first one of mod of that name, for calls too.
func TestFirstOfName(t *testing.T) {
	mod := module(t,
		"func g 0 1; block; call 0 f; ret 0",
		"func f 0 1; block; const 0 1; ret 0",
		"func f 0 1; block; const 0 2; ret 0",
		"func f 1 1; block; ret 0",
		"func g 0 1; block; const 0 9; ret 0")
	like(t, Run(mod, "f", nil, nil, enough), ended(1, 2))
	like(t, Run(mod, "g", nil, nil, enough), ended(1, 4))
	like(t, Run(mod, "f", []int{1}, nil, enough), trapped(0))
}

// P10.2: a call of what there is not, and with too few or too many, is a trap; at first ahead of all steps.
func TestTrapsOfCalls(t *testing.T) {
	mod := module(t, plus7,
		"func a 0 2; block; out 0; call 0 g; out 0; ret 0",
		"func b 0 2; block; out 0; call 0 f; out 0; ret 0",
		"func c 0 2; block; out 0; call 0 f 1 1; out 0; ret 0",
		"func d 0 2; block; out 0; call 0 c; out 0; ret 0")
	for _, name := range []string{"a", "b", "c"} {
		like(t, Run(mod, name, nil, nil, enough), trapped(2, 0))
		like(t, Run(mod, name, nil, nil, 2), trapped(2, 0))
		like(t, Run(mod, name, nil, nil, 1), ranOut(1, 0))
	}
	like(t, Run(mod, "d", nil, nil, enough), trapped(4, 0, 0))
	for _, args := range [][]int{nil, {1, 2}, make([]int, 5000)} {
		for _, fuel := range []int{-1, 0, enough} {
			like(t, Run(mod, "f", args, nil, fuel), trapped(0))
		}
	}
	for _, name := range []string{"", "g", "ff", "F", "f ", "f\x00"} {
		like(t, Run(mod, name, []int{1}, nil, 0), trapped(0))
	}
	like(t, Run(nil, "f", nil, []int{1, 2}, enough), api.Outcome{Kind: api.Trap, Mem: []int{1, 2}})
}

// P10.2: a division by 0 is a trap; its step is done, and what was told and stored stays.
func TestTrapOfDiv(t *testing.T) {
	mod := module(t, "func f 1 3; block; const 1 9; store 1 1; out 1; div 2 1 0; out 2; ret 2")
	want := trapped(4, 9)
	want.Mem = []int{0, 0, 0, 0, 0, 0, 0, 0, 0, 9}
	like(t, Run(mod, "f", []int{0}, nil, enough), want)
	like(t, Run(mod, "f", []int{65536}, nil, enough), want)
	want = ended(3, 6, 9, 3)
	want.Mem = []int{0, 0, 0, 0, 0, 0, 0, 0, 0, 9}
	like(t, Run(mod, "f", []int{3}, nil, enough), want)
}

// P10.2: MaxDeep calls may be under way, and no more.
func TestDeep(t *testing.T) {
	mod := module(t,
		"func f 1 2; block; out 0; branch 0 1 2; block; const 1 1; sub 0 0 1; call 0 f 0; ret 0; block; ret 0",
		"func g 1 2; block; call 1 f 0; call 1 f 0; ret 1",
		"func r 0 1; block; call 0 r; ret 0")
	down := func(n int) []int {
		var told []int
		for ; n >= 0; n-- {
			told = append(told, n)
		}
		return told
	}
	like(t, Run(mod, "f", []int{31}, nil, enough), ended(0, 31*6+3, down(31)...))
	like(t, Run(mod, "f", []int{32}, nil, enough), trapped(32*5, down(32)[:32]...))
	like(t, Run(mod, "g", []int{30}, nil, enough), ended(0, 2*(30*6+3)+3, append(down(30), down(30)...)...))
	like(t, Run(mod, "g", []int{31}, nil, enough), trapped(1+31*5, down(31)[:31]...))
	like(t, Run(mod, "r", nil, nil, enough), trapped(32))
	like(t, Run(mod, "r", nil, nil, 32), trapped(32))
	like(t, Run(mod, "r", nil, nil, 31), ranOut(31))
}

// P10.2: if fuel steps were done the fuel ran out, in calls too; what was told and stored stays.
func TestFuel(t *testing.T) {
	mod := module(t,
		"func f 0 2; block; const 0 3; out 0; call 1 g 0; out 1; ret 1",
		"func g 1 1; block; store 0 0; out 0; add 0 0 0; ret 0")
	told := [][]int{nil, nil, {3}, {3}, {3}, {3, 3}, {3, 3}, {3, 3}, {3, 3, 6}}
	for fuel, list := range told {
		want := ranOut(fuel, list...)
		if fuel > 3 {
			want.Mem = []int{0, 0, 0, 3}
		}
		like(t, Run(mod, "f", nil, nil, fuel), want)
	}
	for _, fuel := range []int{9, 10, 1 << 20, math.MaxInt} {
		want := ended(6, 9, 3, 3, 6)
		want.Mem = []int{0, 0, 0, 3}
		like(t, Run(mod, "f", nil, nil, fuel), want)
	}
	for _, fuel := range []int{-1, -1 << 40, math.MinInt} {
		like(t, Run(mod, "f", nil, nil, fuel), ranOut(0))
	}
}

// P10.2: the fuel counts as 2^20, if it is above.
func TestMostFuel(t *testing.T) {
	mod := module(t, "func f 1 1; block; jump 1; block; jump 1", "func g 2 3; block; const 2 1; jump 1; block; sub 0 0 2; branch 0 1 2; block; sub 1 1 2; branch 1 1 3; block; ret 0")
	for _, fuel := range []int{1<<20 + 1, 1 << 21, 1 << 40, math.MaxInt} {
		like(t, Run(mod, "f", []int{1}, nil, fuel), ranOut(1<<20))
	}
	like(t, Run(mod, "f", []int{1}, nil, 1<<20-1), ranOut(1<<20-1))
	like(t, Run(mod, "f", []int{1}, nil, 1<<20), ranOut(1<<20))
	// 2 steps and 2 a round, and 2 more each time that the first value came round, and Ret.
	like(t, Run(mod, "g", []int{65535, 7}, nil, math.MaxInt), ended(0, 2+2*(65535+6*65536)+2*7+1))
	like(t, Run(mod, "g", []int{65535, 9}, nil, math.MaxInt), ranOut(1<<20))
}

// R1: of functions that may not be a call ends, too, as runs do: no panic but those of a run is caught.
func TestOthers(t *testing.T) {
	try := func(f api.Func, args ...int) {
		if got := Run([]api.Func{f}, "f", args, nil, 1000); got.Kind < api.Ended || got.Kind > api.Fuel {
			t.Errorf("%v: kind %d", f, got.Kind)
		}
	}
	odd := []int{math.MinInt, -1, 0, 1, 63, 64, 65, 1 << 40, math.MaxInt}
	for op := -2; op < 25; op++ {
		for _, n := range odd {
			x := api.Ins{Op: op, D: n, A: n, B: n, Name: "f", Args: []int{n, n}}
			y := api.Ins{Op: op, Name: "f", Args: []int{n}}
			for _, blocks := range [][][]api.Ins{{{x}}, {{y}}, {nil, {x}}, {{y, x, y}}, {{{Op: api.Jump, A: 1}}, {x, y}}} {
				for _, regs := range odd {
					try(api.Func{Name: "f", Params: 1, Regs: regs, Blocks: blocks}, 1)
				}
			}
		}
	}
	for _, n := range odd {
		c := api.Ins{Op: api.Const, A: n}
		try(api.Func{Name: "f", Regs: 1, Blocks: [][]api.Ins{{c, {Op: api.Store}, {Op: api.Ret}}}})
		try(api.Func{Name: "f", Regs: 1, Blocks: [][]api.Ins{{c, {Op: api.Load}, {Op: api.Ret}}}})
	}
	ret := [][]api.Ins{{{Op: api.Ret}}}
	try(api.Func{Name: "f", Params: -1, Blocks: ret})
	try(api.Func{Name: "f", Params: math.MinInt, Blocks: ret})
	try(api.Func{Name: "f", Params: 5000, Blocks: ret}, make([]int, 5000)...)
	if got := Run(make([]api.Func, 2), "", nil, nil, enough); got.Kind != api.Trap {
		t.Errorf("a function without blocks: kind %d", got.Kind)
	}
}

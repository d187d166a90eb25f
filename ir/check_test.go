package ir

import (
	"math"
	"math/rand"
	"reflect"
	"strings"
	"testing"

	"cubby/api"
)

var ret = api.Ins{Op: api.Ret}

// of is a function of one parameter and four registers, with these blocks.
func of(blocks ...[]api.Ins) api.Func {
	return api.Func{Name: "f", Params: 1, Regs: 4, Blocks: blocks}
}

// blocks are n blocks, each of which returns at once.
func blocks(n int) [][]api.Ins {
	var list [][]api.Ins
	for range n {
		list = append(list, []api.Ins{ret})
	}
	return list
}

// long is a block of n instructions.
func long(n int) []api.Ins {
	var ins []api.Ins
	for range n - 1 {
		ins = append(ins, api.Ins{Op: api.Out})
	}
	return append(ins, ret)
}

func wants(t *testing.T, what string, f api.Func, want api.Errno) {
	t.Helper()
	if got := Check(f); got != want {
		t.Errorf("%s: %d instead of %d", what, got, want)
	}
}

// P7.3: functions that may be: all Ops, at the edges of what each may have.
func TestCheckTakes(t *testing.T) {
	wants(t, "f(a) = a + 7", api.Func{Name: "f", Params: 1, Regs: 2, Blocks: [][]api.Ins{{
		{Op: api.Const, D: 1, A: 7}, {Op: api.Add, D: 1, B: 1}, {Op: api.Ret, A: 1},
	}}}, api.OK)
	wants(t, "all Ops", of([]api.Ins{
		{Op: api.Const}, {Op: api.Const, D: 3, A: api.Words - 1}, {Op: api.Copy, D: 3, A: 3}, {Op: api.Add, D: 3, A: 3, B: 3},
		{Op: api.Sub, D: 3, A: 3, B: 3}, {Op: api.Mul, D: 3, A: 3, B: 3}, {Op: api.Less, D: 3, A: 3, B: 3},
		{Op: api.Div, D: 3, A: 3, B: 3}, {Op: api.Load, D: 3, A: 3}, {Op: api.Store, A: 3, B: 3}, {Op: api.Out, A: 3},
		{Op: api.Call, D: 3, Name: "abcdefghijkl", Args: []int{3, 3, 0, 3}}, {Op: api.Call, Name: "f"},
		{Op: api.Call, Name: "g", Args: []int{}}, {Op: api.Jump, A: 2},
	}, []api.Ins{{Op: api.Branch, D: 2, A: 3, B: 2}}, []api.Ins{{Op: api.Branch}}, []api.Ins{{Op: api.Ret, A: 3}}), api.OK)
	f := of([]api.Ins{{Op: api.Jump}})
	f.Params, f.Regs = 0, 0
	wants(t, "no registers", f, api.OK)
	wants(t, "an empty list of Args", of([]api.Ins{{Op: api.Ret, Args: []int{}}}), api.OK)
}

// P7.3: ErrName of the function's name.
func TestCheckName(t *testing.T) {
	for _, s := range []string{"", "F", "0f", "f ", "abcdefghijklm"} {
		f := of(blocks(1)...)
		f.Name = s
		wants(t, s, f, api.ErrName)
		f.Params = -1
		wants(t, s+" without a shape", f, api.ErrName)
	}
	wants(t, "nothing", api.Func{}, api.ErrName)
}

// P7.3: ErrShape of Params and Regs.
func TestCheckRegs(t *testing.T) {
	for _, x := range []struct {
		params, regs int
		want         api.Errno
	}{
		{0, 1, api.OK}, {1, 1, api.OK}, {4, 4, api.OK}, {4, 64, api.OK}, {0, 64, api.OK}, {2, 2, api.OK},
		{-1, 1, api.ErrShape}, {-1, -1, api.ErrShape}, {5, 5, api.ErrShape}, {5, 64, api.ErrShape}, {1, 0, api.ErrShape},
		{4, 3, api.ErrShape}, {0, -1, api.ErrShape}, {0, 65, api.ErrShape}, {4, 65, api.ErrShape},
		{math.MinInt, 1, api.ErrShape}, {math.MaxInt, math.MaxInt, api.ErrShape}, {0, math.MaxInt, api.ErrShape}, {0, math.MinInt, api.ErrShape},
	} {
		f := of(blocks(1)...)
		f.Params, f.Regs = x.params, x.regs
		if got := Check(f); got != x.want {
			t.Errorf("%d of %d: %d", x.params, x.regs, got)
		}
	}
}

// P7.3: ErrShape of blocks and instructions.
func TestCheckBlocks(t *testing.T) {
	wants(t, "no blocks", of(), api.ErrShape)
	wants(t, "32 blocks", of(blocks(32)...), api.OK)
	wants(t, "33 blocks", of(blocks(33)...), api.ErrShape)
	wants(t, "an empty block", of(nil), api.ErrShape)
	wants(t, "an empty block behind", of([]api.Ins{ret}, []api.Ins{}), api.ErrShape)
	wants(t, "an empty block between", of([]api.Ins{ret}, nil, []api.Ins{ret}), api.ErrShape)
	wants(t, "200 instructions", of(long(200)), api.OK)
	wants(t, "201 instructions", of(long(201)), api.ErrShape)
	wants(t, "200 instructions in three blocks", of(long(99), long(1), long(100)), api.OK)
	wants(t, "201 instructions in three blocks", of(long(99), long(2), long(100)), api.ErrShape)
	wants(t, "an empty block behind what may not be", of([]api.Ins{{Op: api.Out}}, nil), api.ErrShape)
	wants(t, "too many instructions that may not be", of(make([]api.Ins, 5000)), api.ErrShape)
}

// P7.3: ErrOp of an Op that is in no table, as the last one and as another.
func TestCheckOdd(t *testing.T) {
	for _, op := range odd {
		wants(t, "the last one", of([]api.Ins{{Op: op}}), api.ErrOp)
		wants(t, "the first one", of([]api.Ins{{Op: op}, ret}), api.ErrOp)
		wants(t, "one with fields", of([]api.Ins{{Op: op, D: 1, A: 1}, ret}), api.ErrOp)
	}
}

// P7.3: ErrOp, unless Last just of the block's last one.
func TestCheckLast(t *testing.T) {
	wants(t, "Out at the end", of([]api.Ins{ret}, []api.Ins{{Op: api.Out}}), api.ErrOp)
	for op := api.Const; op <= api.Ret; op++ {
		x := api.Ins{Op: op}
		if op == api.Call {
			x.Name = "g"
		}
		ends := op == api.Jump || op == api.Branch || op == api.Ret
		alone, ahead := api.ErrOp, api.OK
		if ends {
			alone, ahead = api.OK, api.ErrOp
		}
		wants(t, "alone", of([]api.Ins{x}), alone)
		wants(t, "ahead of another", of([]api.Ins{x, ret}), ahead)
	}
}

// P7.3: ErrOp, unless what the Op does not have is 0 or empty.
func TestCheckFields(t *testing.T) {
	for _, r := range []struct {
		op  int
		has string
	}{
		{api.Const, "DA"}, {api.Copy, "DA"}, {api.Add, "DAB"}, {api.Sub, "DAB"}, {api.Mul, "DAB"}, {api.Less, "DAB"}, {api.Div, "DAB"},
		{api.Load, "DA"}, {api.Store, "AB"}, {api.Out, "A"}, {api.Call, "DNG"}, {api.Jump, "A"}, {api.Branch, "DAB"}, {api.Ret, "A"},
	} {
		for _, n := range []int{1, -1, math.MaxInt, math.MinInt} {
			for _, field := range "DABNG" {
				x := api.Ins{Op: r.op}
				set(&x, field, n)
				got := Check(of([]api.Ins{x}, []api.Ins{ret}))
				if !Last(r.op) {
					got = Check(of([]api.Ins{x, ret}, []api.Ins{ret}))
				}
				if (got != api.ErrOp) != strings.ContainsRune(r.has, field) {
					t.Errorf("%v: %d", x, got)
				}
			}
		}
	}
}

// set sets a field: D, A, B, Name (N), Args (G).
func set(x *api.Ins, field rune, n int) {
	switch field {
	case 'D':
		x.D = n
	case 'A':
		x.A = n
	case 'B':
		x.B = n
	case 'N':
		x.Name = "g"
	case 'G':
		x.Args = []int{0}
	}
}

// P7.3: ErrReg of each register, a D that is -1 too.
func TestCheckReg(t *testing.T) {
	for _, n := range []int{-1, 4, 64, -2, math.MinInt, math.MaxInt} {
		for _, x := range []api.Ins{
			{Op: api.Const, D: n}, {Op: api.Copy, D: n}, {Op: api.Copy, A: n}, {Op: api.Load, D: n}, {Op: api.Load, A: n},
			{Op: api.Add, D: n}, {Op: api.Sub, A: n}, {Op: api.Mul, B: n}, {Op: api.Less, D: n}, {Op: api.Div, B: n},
			{Op: api.Store, A: n}, {Op: api.Store, B: n}, {Op: api.Out, A: n},
			{Op: api.Call, D: n, Name: "g"}, {Op: api.Call, Name: "g", Args: []int{0, 1, n}}, {Op: api.Call, Name: "g", Args: []int{n}},
		} {
			if got := Check(of([]api.Ins{x, ret})); got != api.ErrReg {
				t.Errorf("%v: %d", x, got)
			}
		}
		for _, x := range []api.Ins{{Op: api.Ret, A: n}, {Op: api.Branch, A: n}} {
			if got := Check(of([]api.Ins{x})); got != api.ErrReg {
				t.Errorf("%v: %d", x, got)
			}
		}
	}
	f := of([]api.Ins{ret})
	f.Params, f.Regs = 0, 0
	wants(t, "no registers", f, api.ErrReg)
}

// P7.3: ErrNumber of a Const.
func TestCheckNumber(t *testing.T) {
	for _, n := range []int{-1, api.Words, math.MinInt, math.MaxInt} {
		wants(t, "a number", of([]api.Ins{{Op: api.Const, D: 3, A: n}, ret}), api.ErrNumber)
		wants(t, "a number and a register", of([]api.Ins{{Op: api.Const, D: 4, A: n}, ret}), api.ErrReg)
	}
}

// P7.3: ErrTarget of Jump and Branch.
func TestCheckTarget(t *testing.T) {
	for _, n := range []int{-1, 2, 32, math.MinInt, math.MaxInt} {
		wants(t, "Jump", of([]api.Ins{{Op: api.Jump, A: n}}, []api.Ins{ret}), api.ErrTarget)
		wants(t, "Branch to B", of([]api.Ins{{Op: api.Branch, B: n}}, []api.Ins{ret}), api.ErrTarget)
		wants(t, "Branch to D", of([]api.Ins{{Op: api.Branch, D: n, B: 1}}, []api.Ins{ret}), api.ErrTarget)
		wants(t, "Branch by none", of([]api.Ins{{Op: api.Branch, D: n, A: 4}}, []api.Ins{ret}), api.ErrReg)
	}
}

// P7.3: of a Call ErrName, ErrArity.
func TestCheckCall(t *testing.T) {
	for _, s := range []string{"", "G", "0g", "g h", "abcdefghijklm"} {
		wants(t, "a name", of([]api.Ins{{Op: api.Call, Name: s}, ret}), api.ErrName)
		wants(t, "a name and too many", of([]api.Ins{{Op: api.Call, Name: s, Args: make([]int, 5)}, ret}), api.ErrName)
		wants(t, "a name and a register", of([]api.Ins{{Op: api.Call, Name: s, Args: []int{4}}, ret}), api.ErrReg)
	}
	for _, n := range []int{5, 6, 100, 5000} {
		wants(t, "too many", of([]api.Ins{{Op: api.Call, Name: "g", Args: make([]int, n)}, ret}), api.ErrArity)
	}
	wants(t, "too many, of which one is none", of([]api.Ins{{Op: api.Call, Name: "g", Args: []int{0, 0, 0, 0, 4}}, ret}), api.ErrReg)
	wants(t, "too many, at the end", of([]api.Ins{{Op: api.Call, Name: "g", Args: make([]int, 5)}}), api.ErrOp)
}

// P7.3: what is wrong with an instruction ahead comes first, whatever it is.
func TestCheckOrder(t *testing.T) {
	wrong := []struct {
		x    api.Ins
		want api.Errno
	}{
		{api.Ins{Op: api.Out, B: 1}, api.ErrOp},
		{api.Ins{Op: api.Out, A: 9}, api.ErrReg},
		{api.Ins{Op: api.Const, A: -1}, api.ErrNumber},
		{api.Ins{Op: api.Call}, api.ErrName},
		{api.Ins{Op: api.Call, Name: "g", Args: make([]int, 5)}, api.ErrArity},
	}
	jump := api.Ins{Op: api.Jump, A: 9}
	for _, a := range wrong {
		for _, b := range wrong {
			wants(t, "one behind the other", of([]api.Ins{a.x, b.x, jump}), a.want)
			wants(t, "a block behind the other", of([]api.Ins{a.x, ret}, []api.Ins{b.x, jump}), a.want)
		}
		wants(t, "a block ahead", of([]api.Ins{jump}, []api.Ins{a.x, ret}), api.ErrTarget)
	}
}

// R3: what is handed in stays what it was.
func TestCheckChangesNothing(t *testing.T) {
	fresh := func() api.Func {
		return of([]api.Ins{{Op: api.Call, Name: "g", Args: []int{1, 2, 3, 0, 2}[:4]}, {Op: api.Jump, A: 1}}, []api.Ins{ret, ret}[:1])
	}
	f := fresh()
	wants(t, "f", f, api.OK)
	if !reflect.DeepEqual(f, fresh()) || f.Blocks[0][0].Args[:5][4] != 2 {
		t.Error(f)
	}
}

// wrongs is the first thing that is wrong with an instruction, by the chapter's table as it is written.
func wrongs(f api.Func, x api.Ins, end bool) api.Errno {
	zero := func(list ...int) bool {
		for _, v := range list {
			if v != 0 {
				return false
			}
		}
		return true
	}
	plain := x.Name == "" && len(x.Args) == 0
	last, fits, regs, blocks := false, false, []int{}, []int{}
	switch x.Op {
	case api.Const:
		fits, regs = plain && zero(x.B), []int{x.D}
	case api.Copy, api.Load:
		fits, regs = plain && zero(x.B), []int{x.D, x.A}
	case api.Add, api.Sub, api.Mul, api.Less, api.Div:
		fits, regs = plain, []int{x.D, x.A, x.B}
	case api.Store:
		fits, regs = plain && zero(x.D), []int{x.A, x.B}
	case api.Out:
		fits, regs = plain && zero(x.D, x.B), []int{x.A}
	case api.Ret:
		fits, regs, last = plain && zero(x.D, x.B), []int{x.A}, true
	case api.Call:
		fits, regs = zero(x.A, x.B), append([]int{x.D}, x.Args...)
	case api.Jump:
		fits, blocks, last = plain && zero(x.D, x.B), []int{x.A}, true
	case api.Branch:
		fits, regs, blocks, last = plain, []int{x.A}, []int{x.D, x.B}, true
	}
	if !fits || last != end {
		return api.ErrOp
	}
	for _, r := range regs {
		if r < 0 || r >= f.Regs {
			return api.ErrReg
		}
	}
	if x.Op == api.Const && (x.A < 0 || x.A > 65535) {
		return api.ErrNumber
	}
	for _, b := range blocks {
		if b < 0 || b >= len(f.Blocks) {
			return api.ErrTarget
		}
	}
	if x.Op == api.Call && !Name(x.Name) {
		return api.ErrName
	}
	if x.Op == api.Call && len(x.Args) > 4 {
		return api.ErrArity
	}
	return api.OK
}

// P7.3: instructions thrown from a fixed seed, as the chapter's table has them.
func TestCheckThrown(t *testing.T) {
	r := rand.New(rand.NewSource(7))
	counts := map[api.Errno]int{}
	for range 200000 {
		f := of(blocks(1 + r.Intn(3))...)
		b := r.Intn(len(f.Blocks))
		x, end := thrown(r), r.Intn(3) > 0
		f.Blocks[b] = []api.Ins{x, ret}
		if end {
			f.Blocks[b] = []api.Ins{{Op: api.Out}, x}
		}
		want := wrongs(f, x, end)
		if got := Check(f); got != want {
			t.Fatalf("%v at the end %v of block %d of %d: %d instead of %d", x, end, b, len(f.Blocks), got, want)
		}
		counts[want]++
	}
	for _, e := range []api.Errno{api.OK, api.ErrOp, api.ErrReg, api.ErrNumber, api.ErrTarget, api.ErrName, api.ErrArity} {
		if counts[e] < 50 {
			t.Errorf("%d: %d times only", e, counts[e])
		}
	}
}

// thrown is an instruction most of whose fields are 0, or as they may be.
func thrown(r *rand.Rand) api.Ins {
	few := func() int {
		if r.Intn(2) == 0 {
			return 0
		}
		return []int{-1, 0, 1, 2, 3, 4, 3, 2, 1, 65535, 65536}[r.Intn(11)]
	}
	x := api.Ins{Op: r.Intn(17), D: few(), A: few(), B: few()}
	if x.Op == api.Call && r.Intn(3) > 0 {
		x.A, x.B = 0, 0
	}
	if x.Op == api.Call || r.Intn(9) == 0 {
		x.Name = []string{"", "g", "g2", "2g"}[r.Intn(4)]
	}
	if x.Op == api.Call || r.Intn(9) == 0 {
		x.Args = make([]int, r.Intn(7))
		for i := range x.Args {
			x.Args[i] = r.Intn(4)
			if r.Intn(20) == 0 {
				x.Args[i] = few()
			}
		}
	}
	return x
}

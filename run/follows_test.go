package run

import (
	"math/rand"
	"reflect"
	"slices"
	"testing"

	"cubby/api"
	"cubby/ir"
)

// names are those of the functions at random; the last one is of none.
var names = []string{"f", "g", "h", "none"}

// someFunc is a function at random that ir.Check takes.
func someFunc(t *testing.T, r *rand.Rand, name string) api.Func {
	f := api.Func{Name: name, Params: r.Intn(3)}
	f.Regs = f.Params + 1 + r.Intn(4)
	for range 1 + r.Intn(4) {
		f.Blocks = append(f.Blocks, nil)
	}
	reg := func() int { return r.Intn(f.Regs) }
	for b := range f.Blocks {
		for range r.Intn(6) {
			f.Blocks[b] = append(f.Blocks[b], someIns(r, reg))
		}
		to := func() int { return r.Intn(len(f.Blocks)) }
		last := api.Ins{Op: api.Ret, A: reg()}
		switch r.Intn(4) {
		case 0:
			last = api.Ins{Op: api.Jump, A: to()}
		case 1, 2:
			last = api.Ins{Op: api.Branch, A: reg(), B: to(), D: to()}
		}
		f.Blocks[b] = append(f.Blocks[b], last)
	}
	if err := ir.Check(f); err != api.OK {
		t.Fatalf("%v: %d", f, err)
	}
	return f
}

func someIns(r *rand.Rand, reg func() int) api.Ins {
	switch op := api.Const + r.Intn(api.Call+3); op {
	case api.Copy, api.Load:
		return api.Ins{Op: op, D: reg(), A: reg()}
	case api.Add, api.Sub, api.Mul, api.Less, api.Div:
		return api.Ins{Op: op, D: reg(), A: reg(), B: reg()}
	case api.Store:
		return api.Ins{Op: op, A: reg(), B: reg()}
	case api.Out:
		return api.Ins{Op: op, A: reg()}
	case api.Call:
		args := []int{reg(), reg()}[:r.Intn(3)]
		return api.Ins{Op: op, D: reg(), Name: names[r.Intn(len(names))], Args: args}
	}
	return api.Ins{Op: api.Const, D: reg(), A: []int{0, 1, 2, 3, 255, 256, 65535, r.Intn(api.Words)}[r.Intn(8)]}
}

func someModule(t *testing.T, r *rand.Rand) []api.Func {
	var mod []api.Func
	for _, name := range names[:len(names)-1] {
		mod = append(mod, someFunc(t, r, name))
	}
	return mod
}

func someWords(r *rand.Rand, n int) []int {
	list := make([]int, n)
	for i := range list {
		list[i] = r.Intn(3*api.Words) - api.Words
	}
	return list
}

// frame is a call that is under way.
type frame struct {
	f    api.Func
	regs map[int]int
	b, i int
	to   int // the register of the call ahead that becomes what this one returns
}

// stepped does a run by a list of frames, without a call within another, and without a panic.
func stepped(mod []api.Func, name string, args, mem []int, fuel int) api.Outcome {
	out := api.Outcome{Mem: make([]int, api.Memory)}
	for i := range min(len(mem), api.Memory) {
		out.Mem[i] = word(number(mem[i]))
	}
	var frames []*frame
	enter := func(name string, values []int, to int) bool {
		for _, f := range mod {
			if f.Name != name {
				continue
			}
			if f.Params != len(values) || len(frames) == api.MaxDeep {
				return false
			}
			regs := map[int]int{}
			for i, v := range values {
				regs[i] = word(number(v))
			}
			frames = append(frames, &frame{f: f, regs: regs, to: to})
			return true
		}
		return false
	}
	if !enter(name, args, 0) {
		out.Kind = api.Trap
		return out
	}
	for out.Kind == 0 {
		if out.Steps >= fuel {
			out.Kind = api.Fuel
			return out
		}
		out.Steps++
		top := frames[len(frames)-1]
		x := top.f.Blocks[top.b][top.i]
		top.i++
		switch x.Op {
		case api.Const:
			top.regs[x.D] = x.A
		case api.Copy:
			top.regs[x.D] = top.regs[x.A]
		case api.Load:
			top.regs[x.D] = out.Mem[top.regs[x.A]&255]
		case api.Store:
			out.Mem[top.regs[x.A]&255] = top.regs[x.B]
		case api.Out:
			out.Told = append(out.Told, top.regs[x.A])
		case api.Call:
			var values []int
			for _, a := range x.Args {
				values = append(values, top.regs[a])
			}
			if !enter(x.Name, values, x.D) {
				out.Kind = api.Trap
			}
		case api.Jump:
			top.b, top.i = x.A, 0
		case api.Branch:
			top.b, top.i = map[bool]int{true: x.B, false: x.D}[top.regs[x.A] != 0], 0
		case api.Ret:
			frames = frames[:len(frames)-1]
			if len(frames) == 0 {
				out.Kind, out.Value = api.Ended, top.regs[x.A]
			} else {
				frames[len(frames)-1].regs[top.to] = top.regs[x.A]
			}
		default:
			n, ok := comesTo(x.Op, int64(top.regs[x.A]), int64(top.regs[x.B]))
			if !ok {
				out.Kind = api.Trap
			}
			top.regs[x.D] = n
		}
	}
	return out
}

// P10.2, P10.3: modules at random, held against the chapter's words; with less fuel, and with more.
func TestModulesAtRandom(t *testing.T) {
	r := rand.New(rand.NewSource(10))
	kinds := map[int]int{}
	for range 4000 {
		mod := someModule(t, r)
		args, mem := someWords(r, mod[0].Params), someWords(r, r.Intn(300))
		fuel := r.Intn(300)
		got := Run(mod, "f", args, mem, fuel)
		kinds[got.Kind]++
		like(t, got, stepped(mod, "f", args, mem, fuel))
		if got.Kind != api.Fuel {
			for _, more := range []int{got.Steps, fuel + 1, fuel + 1000, 1 << 30} {
				like(t, Run(mod, "f", args, mem, more), got)
			}
		}
		for _, less := range []int{0, r.Intn(fuel + 1), got.Steps - 1} {
			before := Run(mod, "f", args, mem, less)
			if len(before.Told) > len(got.Told) || !slices.Equal(before.Told, got.Told[:len(before.Told)]) {
				t.Errorf("%v: with fuel %d it told %v, with fuel %d %v", mod, less, before.Told, fuel, got.Told)
			}
			if less < got.Steps && before.Kind != api.Fuel {
				t.Errorf("%v: with fuel %d it came to %v", mod, less, before)
			}
		}
		if t.Failed() {
			t.Fatalf("%v with %v", mod, args)
		}
	}
	for _, kind := range []int{api.Ended, api.Trap, api.Fuel} {
		if kinds[kind] < 400 {
			t.Errorf("too few of kind %d: %v", kind, kinds)
		}
	}
}

// R3, R5: what is handed in stays what it was, its spare room too; an answer is new memory.
func TestNewMemory(t *testing.T) {
	room := module(t,
		"func f 1 4; block; out 0; const 1 2; const 2 9; store 1 2; call 0 g 0 2; out 0; ret 2",
		"func g 2 2; block; out 1; store 0 1; ret 1", plus7)
	for i := range room {
		room[i].Blocks[0] = append(room[i].Blocks[0], api.Ins{Op: api.Out, A: 3, Args: []int{1}})[:len(room[i].Blocks[0])]
	}
	room[0].Blocks[0][4].Args = []int{0, 2, 1}[:2]
	mod := room[:2]
	args, mem := []int{-65531, 6, 7}, []int{65537, 2, 3, 4, 5, 6}
	before := module(t,
		"func f 1 4; block; out 0; const 1 2; const 2 9; store 1 2; call 0 g 0 2; out 0; ret 2",
		"func g 2 2; block; out 1; store 0 1; ret 1", plus7)
	for range 2 {
		got := Run(mod, "f", args[:1], mem[:4], enough)
		want := ended(9, 10, 5, 9, 9)
		want.Mem = []int{1, 2, 9, 4, 0, 9}
		like(t, got, want)
		spoil(got.Told)
		like(t, api.Outcome{Kind: got.Kind, Value: got.Value, Steps: got.Steps, Mem: got.Mem}, api.Outcome{Kind: 1, Value: 9, Steps: 10, Mem: want.Mem})
		spoil(got.Mem)
	}
	if !slices.Equal(args, []int{-65531, 6, 7}) || !slices.Equal(mem, []int{65537, 2, 3, 4, 5, 6}) {
		t.Error("the values, the memory that were handed in became", args, mem)
	}
	for i, f := range room {
		spare := f.Blocks[0][:len(f.Blocks[0])+1][len(f.Blocks[0])]
		if !reflect.DeepEqual(f, before[i]) || !ir.Same(spare, api.Ins{Op: api.Out, A: 3, Args: []int{1}}) {
			t.Error("what was handed in became", f, spare)
		}
	}
	if !slices.Equal(mod[0].Blocks[0][4].Args[:3], []int{0, 2, 1}) {
		t.Error("the registers of a call became", mod[0].Blocks[0][4].Args[:3])
	}
}

// spoil makes all of a list another one, its spare room too.
func spoil(list []int) {
	list = list[:cap(list)]
	for i := range list {
		list[i] = -7
	}
}

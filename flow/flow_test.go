package flow

import (
	"math"
	"slices"
	"testing"

	"cubby/api"
)

// nowhere are numbers of no block, of ten blocks at most.
var nowhere = []int{math.MinInt, -1 << 32, -1, 10, 11, 64, 1 << 32, math.MaxInt}

func out() api.Ins { return api.Ins{Op: api.Out} }

func ret() []api.Ins { return []api.Ins{out(), {Op: api.Ret}} }

func jump(to int) []api.Ins { return []api.Ins{out(), {Op: api.Jump, A: to}} }

// branch goes to yes, if its register, whose number is that of a block too, isn't 0.
func branch(yes, no int) []api.Ins {
	return []api.Ins{out(), {Op: api.Branch, A: 1, B: yes, D: no}}
}

// diamond is the chapter's example.
func diamond() [][]api.Ins { return [][]api.Ins{branch(1, 2), jump(3), jump(3), ret()} }

func succs(t *testing.T, blocks [][]api.Ins, i int, want ...int) {
	t.Helper()
	if got := Succs(blocks, i); !slices.Equal(got, want) {
		t.Errorf("Succs of %d: %v instead of %v", i, got, want)
	}
}

func preds(t *testing.T, blocks [][]api.Ins, i int, want ...int) {
	t.Helper()
	if got := Preds(blocks, i); !slices.Equal(got, want) {
		t.Errorf("Preds of %d: %v instead of %v", i, got, want)
	}
}

// order holds Order against want, and Reach too, which tells the same blocks.
func order(t *testing.T, blocks [][]api.Ins, want ...int) {
	t.Helper()
	if got := Order(blocks); !slices.Equal(got, want) {
		t.Errorf("Order of %v: %v instead of %v", blocks, got, want)
	}
	reach := Reach(blocks)
	if len(reach) != len(blocks) {
		t.Fatalf("Reach tells of %d blocks instead of %d", len(reach), len(blocks))
	}
	for i, is := range reach {
		if is != slices.Contains(want, i) {
			t.Errorf("Reach of %v: block %d %v", blocks, i, is)
		}
	}
}

// P9.1: of each kind of last instruction.
func TestSuccs(t *testing.T) {
	blocks := [][]api.Ins{branch(1, 2), jump(3), jump(0), ret(), jump(4), branch(5, 4)}
	succs(t, blocks, 0, 1, 2)
	succs(t, blocks, 1, 3)
	succs(t, blocks, 2, 0)
	succs(t, blocks, 3)
	succs(t, blocks, 4, 4)
	succs(t, blocks, 5, 5, 4)
}

// P9.1: in their order, which is not that of their numbers; each once.
func TestSuccsOrder(t *testing.T) {
	succs(t, [][]api.Ins{branch(2, 1), ret(), ret()}, 0, 2, 1)
	succs(t, [][]api.Ins{branch(1, 1), ret()}, 0, 1)
	succs(t, [][]api.Ins{branch(0, 0)}, 0, 0)
	succs(t, [][]api.Ins{branch(1, 0), ret()}, 0, 1, 0)
}

// P9.1: targets that are no blocks are left out, the others stay.
func TestSuccsNowhere(t *testing.T) {
	for _, n := range nowhere {
		blocks := [][]api.Ins{branch(n, 1), branch(2, n), jump(n), branch(n, n), ret(), ret(), ret(), ret(), ret(), ret()}
		succs(t, blocks, 0, 1)
		succs(t, blocks, 1, 2)
		succs(t, blocks, 2)
		succs(t, blocks, 3)
	}
	succs(t, [][]api.Ins{jump(1), jump(2)}, 0, 1)
	succs(t, [][]api.Ins{jump(1), jump(2)}, 1)
}

// P9.1: none of an empty block, nor of one that there is not.
func TestSuccsOfNone(t *testing.T) {
	ten := make([][]api.Ins, 10)
	for i := range ten {
		ten[i] = jump(1)
	}
	for _, n := range nowhere {
		succs(t, ten, n)
		succs(t, nil, n)
		preds(t, ten, n)
		preds(t, nil, n)
	}
	succs(t, nil, 0)
	preds(t, nil, 0)
	succs(t, [][]api.Ins{{}, nil, ret()}, 0)
	succs(t, [][]api.Ins{{}, nil, ret()}, 1)
}

// P9.1: the last instruction alone counts, whatever it is.
func TestSuccsOfLast(t *testing.T) {
	blocks := [][]api.Ins{
		{{Op: api.Jump, A: 1}, {Op: api.Jump, A: 2}},
		{{Op: api.Branch, A: 1, B: 1, D: 2}, {Op: api.Ret, A: 1}},
		{{Op: api.Jump, A: 1}, {Op: api.Out, A: 1}},
	}
	succs(t, blocks, 0, 2)
	succs(t, blocks, 1)
	succs(t, blocks, 2)
	for op := -30; op <= 30; op++ {
		x := api.Ins{Op: op, D: 1, A: 2, B: 3, Name: "f", Args: []int{1, 2}}
		want := map[int][]int{api.Jump: {2}, api.Branch: {3, 1}}[op]
		succs(t, [][]api.Ins{{x}, ret(), ret(), ret()}, 0, want...)
	}
}

// P9.1: rising, each once, also of blocks that are not reached, and of itself.
func TestPreds(t *testing.T) {
	blocks := [][]api.Ins{branch(3, 1), branch(3, 3), jump(3), branch(4, 3), jump(0), {}, ret()}
	preds(t, blocks, 0, 4)
	preds(t, blocks, 1, 0)
	preds(t, blocks, 2)
	preds(t, blocks, 3, 0, 1, 2, 3)
	preds(t, blocks, 4, 3)
	preds(t, blocks, 5)
	preds(t, blocks, 6)
}

// P9.1: what a block goes to that there is not has none.
func TestPredsNowhere(t *testing.T) {
	for _, n := range nowhere {
		preds(t, [][]api.Ins{jump(n), branch(n, 0), branch(0, n)}, n)
	}
	preds(t, [][]api.Ins{jump(1)}, 1)
}

// P9.2, P9.3: the chapter's example, and the shapes that functions have.
func TestOrder(t *testing.T) {
	order(t, diamond(), 0, 2, 1, 3)
	order(t, [][]api.Ins{ret()}, 0)
	order(t, [][]api.Ins{jump(1), jump(2), ret()}, 0, 1, 2)
	order(t, [][]api.Ins{jump(2), ret(), jump(1)}, 0, 2, 1)
	order(t, [][]api.Ins{branch(2, 1), jump(3), jump(3), ret()}, 0, 1, 2, 3)
	order(t, [][]api.Ins{branch(1, 1), ret()}, 0, 1)
	order(t, [][]api.Ins{branch(1, 2), ret(), ret()}, 0, 2, 1)
}

// P9.3: a successor that another one's visit meets is not visited again.
func TestOrderMetMeanwhile(t *testing.T) {
	order(t, [][]api.Ins{branch(1, 2), jump(2), ret()}, 0, 1, 2)
	order(t, [][]api.Ins{branch(1, 2), ret(), jump(1)}, 0, 2, 1)
	order(t, [][]api.Ins{branch(1, 2), jump(3), jump(1), jump(2)}, 0, 1, 3, 2)
}

// P9.2, P9.3: blocks that come round, to themselves and to those that are under way.
func TestOrderRound(t *testing.T) {
	order(t, [][]api.Ins{jump(0)}, 0)
	order(t, [][]api.Ins{branch(0, 1), jump(0)}, 0, 1)
	order(t, [][]api.Ins{jump(1), branch(2, 3), jump(1), ret()}, 0, 1, 3, 2)
	order(t, [][]api.Ins{jump(1), branch(3, 2), jump(1), ret()}, 0, 1, 2, 3)
	order(t, [][]api.Ins{branch(1, 2), branch(2, 0), branch(1, 0)}, 0, 1, 2)
}

// P9.2, P9.3: what is not reached is told by neither, also where it goes to what is.
func TestOrderUnreached(t *testing.T) {
	order(t, [][]api.Ins{ret(), jump(0), jump(3), jump(2)}, 0)
	order(t, [][]api.Ins{jump(3), jump(0), branch(1, 3), ret(), jump(4)}, 0, 3)
	order(t, [][]api.Ins{{}, ret()}, 0)
	order(t, [][]api.Ins{nil, jump(0)}, 0)
	order(t, [][]api.Ins{{{Op: api.Jump, A: 1}, out()}, ret()}, 0)
	order(t, [][]api.Ins{branch(-1, 2), ret(), branch(3, 1)}, 0, 2, 1)
}

// P9.2, P9.3: of no blocks.
func TestOrderOfNone(t *testing.T) {
	order(t, nil)
	order(t, [][]api.Ins{})
}

// R1: some thousand blocks, in a row, and each with a branch.
func TestOrderLong(t *testing.T) {
	const n = 1 << 14
	var row, back [][]api.Ins
	var rising []int
	for i := range n {
		row = append(row, jump(i+1))
		back = append(back, branch(i+1, i-1))
		rising = append(rising, i)
	}
	for _, blocks := range [][][]api.Ins{row, back} {
		if !slices.Equal(Order(blocks), rising) {
			t.Error("Order is not that of the row")
		}
		if slices.Contains(Reach(blocks), false) {
			t.Error("a block is not reached")
		}
	}
	preds(t, back, 7000, 6999, 7001)
}

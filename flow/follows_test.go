package flow

import (
	"math/rand"
	"reflect"
	"slices"
	"testing"

	"cubby/api"
)

// someBlocks are n blocks at random, some of which are empty, or go where there is nothing.
func someBlocks(r *rand.Rand, n int) [][]api.Ins {
	var blocks [][]api.Ins
	for range n {
		to := func() int { return r.Intn(n+2) - 1 }
		switch r.Intn(8) {
		case 0:
			blocks = append(blocks, ret())
		case 1:
			blocks = append(blocks, nil)
		case 2:
			blocks = append(blocks, append(jump(to()), out()))
		case 3, 4:
			blocks = append(blocks, jump(to()))
		default:
			blocks = append(blocks, branch(to(), to()))
		}
	}
	return blocks
}

// upward are n blocks at random that go to greater ones alone.
func upward(r *rand.Rand, n int) [][]api.Ins {
	var blocks [][]api.Ins
	for i := range n - 1 {
		to := func() int { return i + 1 + r.Intn(n-1-i) }
		if r.Intn(3) == 0 {
			blocks = append(blocks, jump(to()))
		} else {
			blocks = append(blocks, branch(to(), to()))
		}
	}
	return append(blocks, ret())
}

// shuffle gives all blocks but the first one other numbers.
func shuffle(r *rand.Rand, blocks [][]api.Ins) [][]api.Ins {
	is := []int{0}
	for _, i := range r.Perm(len(blocks) - 1) {
		is = append(is, i+1)
	}
	other := make([][]api.Ins, len(blocks))
	for i, ins := range blocks {
		other[is[i]] = ins
		last := &ins[len(ins)-1]
		switch last.Op {
		case api.Jump:
			last.A = is[last.A]
		case api.Branch:
			last.B, last.D = is[last.B], is[last.D]
		}
	}
	return other
}

// goesTo tells by the chapter's words whether block to is a successor of block from.
func goesTo(blocks [][]api.Ins, from, to int) bool {
	if len(blocks[from]) == 0 {
		return false
	}
	last := blocks[from][len(blocks[from])-1]
	return last.Op == api.Jump && last.A == to || last.Op == api.Branch && (last.B == to || last.D == to)
}

// P9.1, P9.2, P9.4: successors, predecessors and what is reached, each by the chapter's words.
func TestBlocksAtRandom(t *testing.T) {
	r := rand.New(rand.NewSource(9))
	for range 3000 {
		n := 1 + r.Intn(9)
		blocks := someBlocks(r, n)
		reached := make([]bool, n)
		reached[0] = true
		for range n { // a way without a block twice has n blocks at most
			for from := range n {
				for to := range n {
					reached[to] = reached[to] || reached[from] && goesTo(blocks, from, to)
				}
			}
		}
		if got := Reach(blocks); !slices.Equal(got, reached) {
			t.Fatalf("%v: Reach %v instead of %v", blocks, got, reached)
		}
		for from := range n {
			var succs, preds []int
			for to := range n {
				if goesTo(blocks, from, to) {
					succs = append(succs, to)
				}
				if goesTo(blocks, to, from) {
					preds = append(preds, to)
				}
			}
			if got := Preds(blocks, from); !slices.Equal(got, preds) {
				t.Fatalf("%v: Preds of %d %v instead of %v", blocks, from, got, preds)
			}
			got := Succs(blocks, from)
			slices.Sort(got)
			if !slices.Equal(got, succs) {
				t.Fatalf("%v: Succs of %d %v instead of %v", blocks, from, got, succs)
			}
		}
		follows(t, blocks)
	}
}

// follows holds Order against P9.4 and against visits without a call within another.
func follows(t *testing.T, blocks [][]api.Ins) {
	t.Helper()
	got := Order(blocks)
	if got[0] != 0 {
		t.Fatalf("%v: Order begins with %d", blocks, got[0])
	}
	rising := slices.Sorted(slices.Values(got))
	var reached []int
	for i, is := range Reach(blocks) {
		if is {
			reached = append(reached, i)
		}
	}
	if !slices.Equal(rising, reached) {
		t.Fatalf("%v: Order has %v instead of %v", blocks, rising, reached)
	}
	if want := visits(blocks); !slices.Equal(got, want) {
		t.Fatalf("%v: Order %v instead of %v", blocks, got, want)
	}
}

// visits does P9.3's visits by a list of those that are under way.
func visits(blocks [][]api.Ins) []int {
	met := map[int]bool{0: true}
	under, put := []int{0}, []int{}
	for len(under) > 0 {
		i := under[len(under)-1]
		next := slices.IndexFunc(Succs(blocks, i), func(to int) bool { return !met[to] })
		if next < 0 {
			put = append([]int{i}, put...)
			under = under[:len(under)-1]
			continue
		}
		to := Succs(blocks, i)[next]
		met[to] = true
		under = append(under, to)
	}
	return put
}

// P9.4: where no block comes round to itself each stands ahead of its successors.
func TestOrderAhead(t *testing.T) {
	r := rand.New(rand.NewSource(94))
	for range 2000 {
		blocks := upward(r, 2+r.Intn(9))
		if r.Intn(2) == 0 {
			blocks = shuffle(r, blocks)
		}
		got := Order(blocks)
		for at, i := range got {
			for _, to := range Succs(blocks, i) {
				if slices.Index(got, to) <= at {
					t.Fatalf("%v: Order %v has %d behind %d", blocks, got, i, to)
				}
			}
		}
		follows(t, blocks)
	}
}

// R3, R5: what is handed in stays what it was, spare room too; an answer is new memory.
func TestNewMemory(t *testing.T) {
	room := append(diamond(), jump(1))
	blocks := room[:4]
	blocks[0] = append(blocks[0], api.Ins{Op: api.Ret})[:2]
	want := append(diamond(), jump(1))
	for range 2 {
		spoil(Succs(blocks, 0), -7)
		spoil(Preds(blocks, 3), -7)
		spoil(Order(blocks), -7)
		spoil(Reach(blocks), false)
		succs(t, blocks, 0, 1, 2)
		preds(t, blocks, 3, 1, 2)
		order(t, blocks, 0, 2, 1, 3)
	}
	if !reflect.DeepEqual(room, want) || !reflect.DeepEqual(blocks[0][:3][2], api.Ins{Op: api.Ret}) {
		t.Errorf("what was handed in became %v", room)
	}
}

// spoil makes all of a list another one, its spare room too.
func spoil[T any](list []T, with T) {
	list = list[:cap(list)]
	for i := range list {
		list[i] = with
	}
}

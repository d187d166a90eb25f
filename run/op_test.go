package run

import (
	"math"
	"math/big"
	"testing"

	"cubby/api"
)

// edges are words, and numbers that are none.
var edges = []int{0, 1, 2, 3, 7, 255, 256, 257, 32767, 32768, 40000, 65534, 65535,
	-1, -2, -65535, -65536, -65537, 65536, 65537, 131071, 131072, 1 << 31, 1<<32 + 5, -1<<40 + 9,
	math.MinInt, math.MinInt + 1, math.MaxInt, math.MaxInt - 1}

// word is what n leaves, worked out with numbers that have no bound.
func word(n *big.Int) int {
	return int(new(big.Int).Mod(n, big.NewInt(65536)).Int64())
}

func number(n int) *big.Int { return big.NewInt(int64(n)) }

// P10.1: words are their own; others differ from theirs by a multiple of 65536.
func TestWord(t *testing.T) {
	for n := range 3 * api.Words {
		if got := Word(n); got != n%65536 {
			t.Errorf("Word(%d) is %d", n, got)
		}
		if got := Word(n - 2*api.Words); got != n%65536 {
			t.Errorf("Word(%d) is %d", n-2*api.Words, got)
		}
	}
	for _, n := range edges {
		if got := Word(n); got != word(number(n)) {
			t.Errorf("Word(%d) is %d", n, got)
		}
	}
	if Word(-1) != 65535 || Word(65536) != 0 || Word(math.MinInt) != 0 || Word(math.MaxInt) != 65535 {
		t.Error("Word of what is no word")
	}
}

// comesTo is P10.1's table, of two words.
func comesTo(op int, a, b int64) (int, bool) {
	x, y, z := big.NewInt(a), big.NewInt(b), new(big.Int)
	switch op {
	case api.Add:
		return word(z.Add(x, y)), true
	case api.Sub:
		return word(z.Sub(x, y)), true
	case api.Mul:
		return word(z.Mul(x, y)), true
	case api.Less:
		return map[int]int{-1: 1}[x.Cmp(y)], true
	case api.Div:
		if b != 0 {
			return word(z.Div(x, y)), true
		}
	}
	return 0, false
}

// P10.1: Op of all edges, those that are no words too.
func TestOp(t *testing.T) {
	for op := api.Const - 3; op <= api.Save+3; op++ {
		for _, a := range edges {
			for _, b := range edges {
				want, is := comesTo(op, int64(word(number(a))), int64(word(number(b))))
				if got, ok := Op(op, a, b); got != want || ok != is {
					t.Errorf("Op(%d, %d, %d) is %d, %v instead of %d, %v", op, a, b, got, ok, want, is)
				}
			}
		}
	}
}

// P10.1: by numbers that stand here.
func TestOpOf(t *testing.T) {
	for _, x := range []struct{ op, a, b, want int }{
		{api.Add, 65535, 7, 6},
		{api.Add, 65535, 65535, 65534},
		{api.Sub, 3, 5, 65534},
		{api.Sub, 5, 3, 2},
		{api.Sub, 0, 65535, 1},
		{api.Mul, 256, 256, 0},
		{api.Mul, 65535, 65535, 1},
		{api.Mul, 300, 300, 24464},
		{api.Less, 1, 2, 1},
		{api.Less, 2, 2, 0},
		{api.Less, 65535, 0, 0},
		{api.Less, 0, 65535, 1},
		{api.Less, -1, 0, 0},
		{api.Less, 65536, 1, 1},
		{api.Div, 7, 2, 3},
		{api.Div, 65535, 1, 65535},
		{api.Div, 1, 65535, 0},
		{api.Div, -1, -1, 1},
		{api.Div, -2, 2, 32767},
		{api.Div, 0, 9, 0},
	} {
		if got, ok := Op(x.op, x.a, x.b); got != x.want || !ok {
			t.Errorf("Op(%d, %d, %d) is %d, %v", x.op, x.a, x.b, got, ok)
		}
	}
}

// P10.1: no Div by 0, nor by what is 0 as a word; nothing of other Ops.
func TestOpNone(t *testing.T) {
	for _, b := range []int{0, 65536, -65536, math.MinInt} {
		for _, a := range edges {
			if got, ok := Op(api.Div, a, b); got != 0 || ok {
				t.Errorf("%d / %d is %d, %v", a, b, got, ok)
			}
		}
	}
	for _, op := range []int{math.MinInt, -3, 0, api.Const, api.Copy, api.Load, api.Store, api.Out, api.Call,
		api.Jump, api.Branch, api.Ret, api.Fetch, api.Save, 65536 + api.Add, math.MaxInt} {
		if got, ok := Op(op, 6, 3); got != 0 || ok {
			t.Errorf("Op %d is %d, %v", op, got, ok)
		}
	}
}

package run

import "cubby/api"

// Word tells the word that differs from n by a multiple of api.Words.
func Word(n int) int { return n & (api.Words - 1) }

// Op tells what op comes to of two words; false, if that is nothing.
func Op(op, a, b int) (int, bool) {
	a, b = Word(a), Word(b)
	switch op {
	case api.Add:
		return Word(a + b), true
	case api.Sub:
		return Word(a - b), true
	case api.Mul:
		return Word(a * b), true
	case api.Less:
		if a < b {
			return 1, true
		}
		return 0, true
	case api.Div:
		if b == 0 {
			return 0, false
		}
		return a / b, true
	}
	return 0, false
}

// Package rules has tests of the source itself: of what no call's answer can show, as long as the compiler stays what it is.
package rules

import (
	"go/ast"
	"go/parser"
	"go/token"
	"go/types"
	"io/fs"
	"path/filepath"
	"slices"
	"strings"
	"testing"
)

// handed is a variable whose address a call gets, and that call.
type handed struct {
	path string
	call *ast.CallExpr
}

// loose are the places where a variable is read in one statement with a call, beside it, that gets its address by a & that is written out: Go leaves open which of both comes first.
func loose(file *ast.File) []token.Pos {
	var places []token.Pos
	ast.Inspect(file, func(n ast.Node) bool {
		if n == nil {
			return false
		}
		together := operands(n)
		for _, h := range handedIn(together) {
			for _, e := range together {
				places = append(places, readsBeside(e, h)...)
			}
		}
		return true
	})
	return places
}

// operands are the expressions that a statement evaluates in one go.
func operands(n ast.Node) []ast.Expr {
	switch s := n.(type) {
	case *ast.ReturnStmt:
		return s.Results
	case *ast.AssignStmt:
		return append(slices.Clone(s.Rhs), places(s.Lhs)...)
	case *ast.ValueSpec:
		return s.Values
	case *ast.ExprStmt:
		return []ast.Expr{s.X}
	case *ast.SendStmt:
		return []ast.Expr{s.Chan, s.Value}
	case *ast.DeferStmt:
		return []ast.Expr{s.Call}
	case *ast.GoStmt:
		return []ast.Expr{s.Call}
	case *ast.IfStmt:
		return []ast.Expr{s.Cond}
	case *ast.ForStmt:
		return []ast.Expr{s.Cond}
	case *ast.RangeStmt:
		return []ast.Expr{s.X}
	case *ast.SwitchStmt:
		return []ast.Expr{s.Tag}
	}
	return nil
}

// places are those of what is assigned to in which something is read: a plain variable is only written.
func places(list []ast.Expr) []ast.Expr {
	return slices.DeleteFunc(slices.Clone(list), func(e ast.Expr) bool {
		_, plain := e.(*ast.Ident)
		return plain
	})
}

func handedIn(together []ast.Expr) []handed {
	var list []handed
	for _, e := range together {
		inspect(e, func(n ast.Node) bool {
			call, ok := n.(*ast.CallExpr)
			if !ok {
				return true
			}
			for _, arg := range call.Args {
				inspect(arg, func(n ast.Node) bool {
					if path, ok := address(n); ok {
						list = append(list, handed{path, call})
					}
					_, inner := n.(*ast.CallExpr) // which comes by itself
					return !inner
				})
			}
			return true
		})
	}
	return list
}

// readsBeside are the places in e where what was handed is read, but for what stands within the call, and addresses that are taken.
func readsBeside(e ast.Expr, h handed) []token.Pos {
	var places []token.Pos
	inspect(e, func(n ast.Node) bool {
		if n == h.call {
			return false
		}
		if _, ok := address(n); ok {
			return false
		}
		x, ok := n.(ast.Expr)
		if !ok || !isPath(x) {
			return true
		}
		if path := types.ExprString(x); within(path, h.path) || within(h.path, path) {
			places = append(places, x.Pos())
		}
		return false
	})
	return places
}

// inspect goes through e, but not into function literals: what stands in them is evaluated later.
func inspect(e ast.Expr, look func(ast.Node) bool) {
	if e == nil {
		return
	}
	ast.Inspect(e, func(n ast.Node) bool {
		if _, ok := n.(*ast.FuncLit); ok || n == nil {
			return false
		}
		return look(n)
	})
}

// address is the variable whose address n takes, if it takes one's.
func address(n ast.Node) (string, bool) {
	u, ok := n.(*ast.UnaryExpr)
	if !ok || u.Op != token.AND || !isPath(u.X) {
		return "", false
	}
	return types.ExprString(u.X), true
}

// isPath tells whether x is a variable, or fields of one.
func isPath(x ast.Expr) bool {
	switch x := x.(type) {
	case *ast.Ident:
		return true
	case *ast.SelectorExpr:
		return isPath(x.X)
	}
	return false
}

// within tells whether path is the whole, or a part of it.
func within(path, whole string) bool { return path == whole || strings.HasPrefix(path, whole+".") }

// LANGUAGE.md, rule 5: what a call answers does not hang on the order in which operands of one statement are evaluated.
func TestOrderOfEvaluation(t *testing.T) {
	fset := token.NewFileSet()
	files := 0
	err := filepath.WalkDir("..", func(path string, d fs.DirEntry, err error) error {
		if err != nil {
			return err
		}
		if d.IsDir() && (d.Name() == "sharedtests" || d.Name() == ".git") {
			return filepath.SkipDir
		}
		if d.IsDir() || !strings.HasSuffix(path, ".go") || strings.HasSuffix(path, "_test.go") {
			return nil
		}
		file, err := parser.ParseFile(fset, path, nil, 0)
		if err != nil {
			return err
		}
		files++
		for _, place := range loose(file) {
			t.Errorf("%s: read in one statement with a call that may change it", fset.Position(place))
		}
		return nil
	})
	if err != nil || files < 20 {
		t.Errorf("%d files, %v", files, err)
	}
}

// What the test above finds, and what it does not take for a fault.
func TestLoose(t *testing.T) {
	for _, c := range []struct {
		body string
		want int
	}{
		{"return x, take(&x)", 1},
		{"return x, take(a, parts(&x)...)", 1},
		{"return x.A, take(&x)", 1},
		{"return x, take(&x.A)", 1},
		{"return take(&x), f(x)", 1},
		{"return I{A: take(&x), B: x.B}", 1},
		{"n, err := x.A, take(&x)", 1},
		{"list[x.A] = take(&x)", 1},
		{"if x.A == take(&x) {}", 1},
		{"g(x, x, take(&x))", 2},
		{"err := take(&x); return x, err", 0},
		{"x = take(&x)", 0},
		{"return take(x, &x)", 0},
		{"return x, take(x)", 0},
		{"return x, func() { take(&x) }", 0},
		{"a, b := due(&x.a), due(&x.b)", 0},
		{"return y, xs, take(&x)", 0},
		{"return x.b, take(&x.a)", 0},
		{"return x.ab, take(&x.a)", 0},
	} {
		file, err := parser.ParseFile(token.NewFileSet(), "", "package p\nfunc f() {\n"+c.body+"\n}", 0)
		if err != nil {
			t.Fatal(c.body, err)
		}
		if got := len(loose(file)); got != c.want {
			t.Errorf("%s: %d found instead of %d", c.body, got, c.want)
		}
	}
}

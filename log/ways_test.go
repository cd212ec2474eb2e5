package log_test

import (
	"go/ast"
	"go/parser"
	"go/token"
	"testing"
)

// The chapter's ways: sectors are read by goto; differences are told by a function that is ranged over, in pairs.
func TestWays(t *testing.T) {
	funcs := map[string]*ast.FuncDecl{}
	for _, name := range []string{"log.go", "rows.go"} {
		f, err := parser.ParseFile(token.NewFileSet(), name, nil, 0)
		if err != nil {
			t.Fatal(err)
		}
		for _, d := range f.Decls {
			if x, ok := d.(*ast.FuncDecl); ok {
				funcs[x.Name.Name] = x
			}
		}
	}
	if x := funcs["Read"]; x == nil || !leaps(x) {
		t.Error("Read has no goto")
	}
	if x := funcs["Diff"]; x == nil || !ranges(funcs, x) {
		t.Error("Diff ranges over no function that tells pairs")
	}
}

// leaps says whether a function has a goto.
func leaps(x *ast.FuncDecl) bool {
	found := false
	ast.Inspect(x, func(n ast.Node) bool {
		b, ok := n.(*ast.BranchStmt)
		found = found || ok && b.Tok == token.GOTO
		return true
	})
	return found
}

// ranges says whether a function ranges, by two values, over what another one gives: a function that takes one.
func ranges(funcs map[string]*ast.FuncDecl, x *ast.FuncDecl) bool {
	found := false
	ast.Inspect(x, func(n ast.Node) bool {
		r, ok := n.(*ast.RangeStmt)
		if !ok || r.Key == nil || r.Value == nil {
			return true
		}
		c, ok := r.X.(*ast.CallExpr)
		if !ok {
			return true
		}
		id, ok := c.Fun.(*ast.Ident)
		found = found || ok && funcs[id.Name] != nil && givesFunction(funcs[id.Name])
		return true
	})
	return found
}

// givesFunction says whether a function returns one that takes another one: one to be ranged over.
func givesFunction(x *ast.FuncDecl) bool {
	found := false
	ast.Inspect(x.Body, func(n ast.Node) bool {
		r, ok := n.(*ast.ReturnStmt)
		if !ok || len(r.Results) != 1 {
			return true
		}
		l, ok := r.Results[0].(*ast.FuncLit)
		found = found || ok && len(l.Type.Params.List) == 1
		return true
	})
	return found
}

package code_test

import (
	"go/ast"
	"go/parser"
	"go/token"
	"testing"
)

// The chapter's ways: a reader leaves by a goto as soon as something is wrong; rows and changes are taken by a generic function.
func TestWays(t *testing.T) {
	f, err := parser.ParseFile(token.NewFileSet(), "read.go", nil, 0)
	if err != nil {
		t.Fatal(err)
	}
	funcs := map[string]*ast.FuncDecl{}
	for _, d := range f.Decls {
		if x, ok := d.(*ast.FuncDecl); ok {
			funcs[x.Name.Name] = x
		}
	}
	for _, name := range []string{"GetNum", "GetText"} {
		if x := funcs[name]; x == nil || !leaves(x) {
			t.Errorf("%s has no goto", name)
		}
	}
	for _, name := range []string{"ReadRows", "ReadChanges"} {
		x := generic(funcs, name)
		if x == nil {
			t.Errorf("%s calls no generic function", name)
		} else if !leaves(x) {
			t.Errorf("%s, of %s, has no goto", x.Name.Name, name)
		}
	}
}

// leaves says whether a function has a goto.
func leaves(x *ast.FuncDecl) bool {
	found := false
	ast.Inspect(x, func(n ast.Node) bool {
		b, ok := n.(*ast.BranchStmt)
		found = found || ok && b.Tok == token.GOTO
		return true
	})
	return found
}

// generic is the generic function of the file that a function calls.
func generic(funcs map[string]*ast.FuncDecl, name string) *ast.FuncDecl {
	var found *ast.FuncDecl
	if funcs[name] == nil {
		return nil
	}
	ast.Inspect(funcs[name], func(n ast.Node) bool {
		if c, ok := n.(*ast.CallExpr); ok {
			if id, ok := c.Fun.(*ast.Ident); ok && funcs[id.Name] != nil && funcs[id.Name].Type.TypeParams != nil {
				found = funcs[id.Name]
			}
		}
		return true
	})
	return found
}

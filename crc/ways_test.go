package crc_test

import (
	"go/ast"
	"go/parser"
	"go/token"
	"testing"
)

// The chapter's ways: what eight steps make of a byte is made anew by a function, in an array, with a range over an integer.
func TestWays(t *testing.T) {
	f, err := parser.ParseFile(token.NewFileSet(), "crc.go", nil, 0)
	if err != nil {
		t.Fatal(err)
	}
	var table *ast.FuncDecl
	for _, d := range f.Decls {
		if g, ok := d.(*ast.GenDecl); ok && g.Tok == token.VAR {
			t.Error("something is kept at the package's level")
		}
		if x, ok := d.(*ast.FuncDecl); ok && givesArray(x) {
			table = x
		}
	}
	if table == nil {
		t.Fatal("no function gives an array")
	}
	if !rangesInteger(table) {
		t.Errorf("%s ranges over no integer", table.Name.Name)
	}
	if !calls(f, "More", table.Name.Name) {
		t.Errorf("More does not call %s", table.Name.Name)
	}
}

// givesArray says whether a function's one result is an array.
func givesArray(x *ast.FuncDecl) bool {
	if x.Type.Results == nil || len(x.Type.Results.List) != 1 {
		return false
	}
	a, ok := x.Type.Results.List[0].Type.(*ast.ArrayType)
	return ok && a.Len != nil
}

// rangesInteger says whether a function ranges over an integer that is written out.
func rangesInteger(x *ast.FuncDecl) bool {
	found := false
	ast.Inspect(x, func(n ast.Node) bool {
		if r, ok := n.(*ast.RangeStmt); ok {
			l, ok := r.X.(*ast.BasicLit)
			found = found || ok && l.Kind == token.INT
		}
		return true
	})
	return found
}

// calls says whether a function of the file calls another one.
func calls(f *ast.File, from, to string) bool {
	found := false
	for _, d := range f.Decls {
		x, ok := d.(*ast.FuncDecl)
		if !ok || x.Name.Name != from {
			continue
		}
		ast.Inspect(x, func(n ast.Node) bool {
			if c, ok := n.(*ast.CallExpr); ok {
				id, ok := c.Fun.(*ast.Ident)
				found = found || ok && id.Name == to
			}
			return true
		})
	}
	return found
}

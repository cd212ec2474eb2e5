package dev_test

import (
	"go/ast"
	"go/parser"
	"go/token"
	"testing"
)

// The chapter's ways: a sector is an array, and the traffic is kept as a complex number.
func TestWays(t *testing.T) {
	f, err := parser.ParseFile(token.NewFileSet(), "dev.go", nil, 0)
	if err != nil {
		t.Fatal(err)
	}
	types := map[string]ast.Expr{}
	for _, d := range f.Decls {
		g, ok := d.(*ast.GenDecl)
		if ok && g.Tok == token.VAR {
			t.Error("something is kept at the package's level")
		}
		if !ok || g.Tok != token.TYPE {
			continue
		}
		for _, s := range g.Specs {
			types[s.(*ast.TypeSpec).Name.Name] = s.(*ast.TypeSpec).Type
		}
	}
	if fields(types, "Dev", func(e ast.Expr) bool { return isName(e, "complex128") }) != 1 {
		t.Error("a device has no complex number, or more")
	}
	if !isBytes(types["sector"]) {
		t.Error("a sector is no array of bytes")
	}
	if fields(types, "Dev", isSectors) == 0 || fields(types, "write", func(e ast.Expr) bool { return isName(e, "sector") }) == 0 {
		t.Error("what is firm, or loose, is no sectors")
	}
}

// fields are how many fields of a struct are such.
func fields(types map[string]ast.Expr, name string, such func(ast.Expr) bool) int {
	s, ok := types[name].(*ast.StructType)
	if !ok {
		return 0
	}
	n := 0
	for _, f := range s.Fields.List {
		if such(f.Type) {
			n += len(f.Names)
		}
	}
	return n
}

// isName says whether a type is the one of that name.
func isName(e ast.Expr, name string) bool {
	id, ok := e.(*ast.Ident)
	return ok && id.Name == name
}

// isBytes says whether a type is an array of bytes.
func isBytes(e ast.Expr) bool {
	a, ok := e.(*ast.ArrayType)
	return ok && a.Len != nil && isName(a.Elt, "byte")
}

// isSectors says whether a type is a list of sectors.
func isSectors(e ast.Expr) bool {
	a, ok := e.(*ast.ArrayType)
	return ok && a.Len == nil && isName(a.Elt, "sector")
}

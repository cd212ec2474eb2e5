package page_test

import (
	"go/ast"
	"go/parser"
	"go/token"
	"testing"
)

// The chapter's ways: a page is an array, and rows are copied into it.
func TestWays(t *testing.T) {
	f, err := parser.ParseFile(token.NewFileSet(), "page.go", nil, 0)
	if err != nil {
		t.Fatal(err)
	}
	pages, copies := map[string]bool{}, 0
	for _, d := range f.Decls {
		x, ok := d.(*ast.FuncDecl)
		if !ok || x.Name.Name != "Encode" {
			continue
		}
		ast.Inspect(x, func(n ast.Node) bool {
			switch y := n.(type) {
			case *ast.ValueSpec:
				if a, ok := y.Type.(*ast.ArrayType); ok && a.Len != nil {
					pages[y.Names[0].Name] = true
				}
			case *ast.CallExpr:
				if id, ok := y.Fun.(*ast.Ident); ok && id.Name == "copy" && pages[sliced(y.Args[0])] {
					copies++
				}
			}
			return true
		})
	}
	if len(pages) != 1 {
		t.Errorf("%d arrays are a page", len(pages))
	}
	if copies == 0 {
		t.Error("nothing is copied into a page")
	}
}

// sliced is the name of what a part is taken of.
func sliced(e ast.Expr) string {
	if s, ok := e.(*ast.SliceExpr); ok {
		if id, ok := s.X.(*ast.Ident); ok {
			return id.Name
		}
	}
	return ""
}

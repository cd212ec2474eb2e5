package store_test

import (
	"go/ast"
	"go/parser"
	"go/token"
	"testing"
)

// The chapter's way: a store keeps its device by an interface of what it needs, and calls it through that.
func TestWays(t *testing.T) {
	types := map[string]ast.Expr{}
	calls := 0
	for _, name := range []string{"store.go", "lay.go"} {
		f, err := parser.ParseFile(token.NewFileSet(), name, nil, 0)
		if err != nil {
			t.Fatal(err)
		}
		for _, d := range f.Decls {
			switch x := d.(type) {
			case *ast.GenDecl:
				if x.Tok == token.VAR {
					t.Error("something is kept at the package's level")
				}
				for _, s := range x.Specs {
					if y, ok := s.(*ast.TypeSpec); ok {
						types[y.Name.Name] = y.Type
					}
				}
			case *ast.FuncDecl:
				calls += called(x)
			}
		}
	}
	i, ok := types["device"].(*ast.InterfaceType)
	if !ok || i.Methods == nil {
		t.Fatal("there is no interface of a device")
	}
	var names []string
	for _, m := range i.Methods.List {
		names = append(names, m.Names[0].Name)
	}
	if len(names) != 4 {
		t.Errorf("a device is %v", names)
	}
	s, ok := types["Store"].(*ast.StructType)
	if !ok {
		t.Fatal("there is no Store")
	}
	kept := 0
	for _, f := range s.Fields.List {
		switch x := f.Type.(type) {
		case *ast.StarExpr:
			t.Error("a store keeps a pointer")
		case *ast.Ident:
			if x.Name == "device" {
				kept += len(f.Names)
			}
		}
	}
	if kept != 1 || calls == 0 {
		t.Errorf("a store keeps %d devices; %d calls of one", kept, calls)
	}
}

// called is how often a function that is given a device by the interface calls it.
func called(x *ast.FuncDecl) int {
	given := map[string]bool{}
	for _, p := range x.Type.Params.List {
		if id, ok := p.Type.(*ast.Ident); ok && id.Name == "device" {
			for _, n := range p.Names {
				given[n.Name] = true
			}
		}
	}
	n := 0
	ast.Inspect(x.Body, func(node ast.Node) bool {
		c, ok := node.(*ast.CallExpr)
		if !ok {
			return true
		}
		if s, ok := c.Fun.(*ast.SelectorExpr); ok {
			if id, ok := s.X.(*ast.Ident); ok && given[id.Name] {
				n++
			}
		}
		return true
	})
	return n
}

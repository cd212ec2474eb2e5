package one_test

import (
	"go/ast"
	"go/parser"
	"go/token"
	"testing"
)

// source are the package's functions, by name.
func source(t *testing.T) map[string]*ast.FuncDecl {
	funcs := map[string]*ast.FuncDecl{}
	for _, name := range []string{"one.go", "read.go"} {
		f, err := parser.ParseFile(token.NewFileSet(), name, nil, 0)
		if err != nil {
			t.Fatal(err)
		}
		for _, d := range f.Decls {
			switch x := d.(type) {
			case *ast.FuncDecl:
				funcs[x.Name.Name] = x
			case *ast.GenDecl:
				if x.Tok == token.VAR {
					t.Errorf("%s: something is kept at the package's level", name)
				}
			}
		}
	}
	return funcs
}

// The chapter's way: what reads a table is a method value in a map.
func TestWays(t *testing.T) {
	funcs := source(t)
	tables := funcs["tables"]
	if tables == nil || tables.Recv == nil {
		t.Fatal("no method tells what reads tables")
	}
	own := tables.Recv.List[0].Names[0].Name
	n := 0
	ast.Inspect(tables, func(node ast.Node) bool {
		l, ok := node.(*ast.CompositeLit)
		if !ok {
			return true
		}
		if _, ok := l.Type.(*ast.MapType); !ok {
			t.Error("readers do not stand in a map")
		}
		for _, e := range l.Elts {
			kv, ok := e.(*ast.KeyValueExpr)
			if !ok {
				continue
			}
			s, ok := kv.Value.(*ast.SelectorExpr)
			if ok && isName(s.X, own) && funcs[s.Sel.Name] != nil && funcs[s.Sel.Name].Recv != nil {
				n++
			}
		}
		return false
	})
	if n != 6 {
		t.Errorf("%d tables have a method value, not 6", n)
	}
	if !looks(funcs["Decode"]) {
		t.Error("Decode does not look in the map")
	}
}

// looks says whether a function takes something out of what tables gave.
func looks(decode *ast.FuncDecl) bool {
	if decode == nil {
		return false
	}
	names := map[string]bool{}
	found := false
	ast.Inspect(decode, func(n ast.Node) bool {
		switch x := n.(type) {
		case *ast.AssignStmt:
			c, ok := x.Rhs[0].(*ast.CallExpr)
			if !ok {
				break
			}
			if s, ok := c.Fun.(*ast.SelectorExpr); ok && s.Sel.Name == "tables" {
				if id, ok := x.Lhs[0].(*ast.Ident); ok {
					names[id.Name] = true
				}
			}
		case *ast.IndexExpr:
			id, ok := x.X.(*ast.Ident)
			found = found || ok && names[id.Name]
		}
		return true
	})
	return found
}

// isName says whether something is a name.
func isName(x ast.Expr, name string) bool {
	id, ok := x.(*ast.Ident)
	return ok && id.Name == name
}

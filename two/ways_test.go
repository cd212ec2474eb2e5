package two_test

import (
	"go/ast"
	"go/parser"
	"go/token"
	"slices"
	"testing"
)

// source are the package's functions and its types, by name.
func source(t *testing.T) (map[string]*ast.FuncDecl, map[string]ast.Expr) {
	funcs, types := map[string]*ast.FuncDecl{}, map[string]ast.Expr{}
	for _, name := range []string{"two.go", "read.go"} {
		f, err := parser.ParseFile(token.NewFileSet(), name, nil, 0)
		if err != nil {
			t.Fatal(err)
		}
		for _, d := range f.Decls {
			switch x := d.(type) {
			case *ast.FuncDecl:
				funcs[x.Name.Name] = x
			case *ast.GenDecl:
				if x.Tok == token.VAR {
					t.Errorf("%s: something is kept at the package's level", name)
				}
				for _, s := range x.Specs {
					if s, ok := s.(*ast.TypeSpec); ok {
						types[s.Name.Name] = s.Type
					}
				}
			}
		}
	}
	return funcs, types
}

// The chapter's way: tables stand in an array, of structs with functions in fields, which both calls go through, and call.
func TestWaysTables(t *testing.T) {
	funcs, types := source(t)
	tables := funcs["tables"]
	if tables == nil || tables.Type.Results == nil {
		t.Fatal("no function tells the tables")
	}
	array, ok := tables.Type.Results.List[0].Type.(*ast.ArrayType)
	if !ok || array.Len == nil {
		t.Fatal("tables do not stand in an array")
	}
	elem, ok := array.Elt.(*ast.Ident)
	if !ok {
		t.Fatal("what stands there has no name")
	}
	table, ok := types[elem.Name].(*ast.StructType)
	if !ok {
		t.Fatal("what stands there is no struct")
	}
	var fields []string
	for _, f := range table.Fields.List {
		if _, ok := f.Type.(*ast.FuncType); ok {
			fields = append(fields, f.Names[0].Name)
		}
	}
	for _, name := range []string{"Encode", "Decode"} {
		called := calls(funcs[name])
		if !slices.Contains(called, "tables") || !slices.ContainsFunc(fields, func(f string) bool { return slices.Contains(called, f) }) {
			t.Errorf("%s calls no function of a table's", name)
		}
	}
}

// The chapter's way: gaps are told by a closure, there and back.
func TestWaysGaps(t *testing.T) {
	funcs, _ := source(t)
	for _, name := range []string{"acks", "readSub"} {
		if !slices.ContainsFunc(calls(funcs[name]), func(f string) bool { return closes(funcs[f]) }) {
			t.Errorf("%s asks no closure", name)
		}
	}
}

// calls are the names of what a function calls: of functions, and of fields.
func calls(x *ast.FuncDecl) []string {
	var l []string
	if x == nil {
		return nil
	}
	ast.Inspect(x, func(n ast.Node) bool {
		if c, ok := n.(*ast.CallExpr); ok {
			switch f := c.Fun.(type) {
			case *ast.Ident:
				l = append(l, f.Name)
			case *ast.SelectorExpr:
				l = append(l, f.Sel.Name)
			}
		}
		return true
	})
	return l
}

// closes says whether a function returns a literal that sets the function's own first argument.
func closes(x *ast.FuncDecl) bool {
	found := false
	if x == nil {
		return false
	}
	ast.Inspect(x.Body, func(n ast.Node) bool {
		r, ok := n.(*ast.ReturnStmt)
		if !ok || len(r.Results) == 0 {
			return true
		}
		l, ok := r.Results[0].(*ast.FuncLit)
		if !ok {
			return true
		}
		ast.Inspect(l.Body, func(n ast.Node) bool {
			a, ok := n.(*ast.AssignStmt)
			if ok {
				id, ok := a.Lhs[0].(*ast.Ident)
				found = found || ok && id.Name == x.Type.Params.List[0].Names[0].Name
			}
			return true
		})
		return true
	})
	return found
}

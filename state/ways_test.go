package state_test

import (
	"go/ast"
	"go/parser"
	"go/token"
	"testing"
)

// The chapter's way: what is sought is told by a function literal that has what is sought from around it.
func TestWays(t *testing.T) {
	funcs := map[string]*ast.FuncDecl{}
	for _, name := range []string{"state.go", "good.go", "key.go"} {
		f, err := parser.ParseFile(token.NewFileSet(), name, nil, 0)
		if err != nil {
			t.Fatal(err)
		}
		for _, d := range f.Decls {
			switch x := d.(type) {
			case *ast.FuncDecl:
				funcs[x.Name.Name] = x
			case *ast.GenDecl:
				if x.Tok == token.VAR {
					t.Error("something is kept at the package's level")
				}
			}
		}
	}
	for _, name := range []string{"Find", "Put", "Without"} {
		if x := funcs[name]; x == nil || !asks(funcs, x) {
			t.Errorf("%s asks no closure", name)
		}
	}
}

// asks says whether a function calls one that gives a closure.
func asks(funcs map[string]*ast.FuncDecl, x *ast.FuncDecl) bool {
	found := false
	ast.Inspect(x, func(n ast.Node) bool {
		c, ok := n.(*ast.CallExpr)
		if !ok {
			return true
		}
		id, ok := c.Fun.(*ast.Ident)
		found = found || ok && funcs[id.Name] != nil && closes(funcs[id.Name])
		return true
	})
	return found
}

// closes says whether a function returns a literal that uses the function's own first argument.
func closes(x *ast.FuncDecl) bool {
	found := false
	ast.Inspect(x.Body, func(n ast.Node) bool {
		l, ok := n.(*ast.FuncLit)
		if !ok {
			return true
		}
		ast.Inspect(l.Body, func(n ast.Node) bool {
			id, ok := n.(*ast.Ident)
			found = found || ok && id.Name == x.Type.Params.List[0].Names[0].Name
			return true
		})
		return true
	})
	return found && x.Type.Results != nil && isFunc(x.Type.Results.List[0].Type)
}

// isFunc says whether a type is that of functions.
func isFunc(x ast.Expr) bool {
	_, ok := x.(*ast.FuncType)
	return ok
}

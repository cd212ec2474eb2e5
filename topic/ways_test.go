package topic_test

import (
	"go/ast"
	"go/parser"
	"go/token"
	"testing"
)

// The chapter's ways: parts are told by a function that is ranged over; signs are asked by a range over a string.
func TestWays(t *testing.T) {
	f, err := parser.ParseFile(token.NewFileSet(), "topic.go", nil, 0)
	if err != nil {
		t.Fatal(err)
	}
	funcs := map[string]*ast.FuncDecl{}
	for _, d := range f.Decls {
		switch x := d.(type) {
		case *ast.FuncDecl:
			funcs[x.Name.Name] = x
		case *ast.GenDecl:
			if x.Tok == token.VAR {
				t.Error("something is kept at the package's level")
			}
		}
	}
	for _, name := range []string{"Right", "Pattern", "Match", "Attrs", "Wanted"} {
		if x := funcs[name]; x == nil || !rangesFunction(funcs, x) {
			t.Errorf("%s ranges over no function", name)
		}
	}
	for _, name := range []string{"word", "parts"} {
		if x := funcs[name]; x == nil || !rangesString(x) {
			t.Errorf("%s does not range over its string", name)
		}
	}
}

// rangesFunction says whether a function ranges over what another one gives: a function that takes one.
func rangesFunction(funcs map[string]*ast.FuncDecl, x *ast.FuncDecl) bool {
	found := false
	ast.Inspect(x, func(n ast.Node) bool {
		r, ok := n.(*ast.RangeStmt)
		if !ok {
			return true
		}
		c, ok := r.X.(*ast.CallExpr)
		if !ok {
			return true
		}
		id, ok := c.Fun.(*ast.Ident)
		found = found || ok && funcs[id.Name] != nil && givesFunction(funcs[id.Name])
		return true
	})
	return found
}

// givesFunction says whether a function returns one that takes another one: one to be ranged over.
func givesFunction(x *ast.FuncDecl) bool {
	found := false
	ast.Inspect(x.Body, func(n ast.Node) bool {
		r, ok := n.(*ast.ReturnStmt)
		if !ok || len(r.Results) != 1 {
			return true
		}
		l, ok := r.Results[0].(*ast.FuncLit)
		found = found || ok && len(l.Type.Params.List) == 1
		return true
	})
	return found
}

// rangesString says whether a function ranges over its first argument, a string.
func rangesString(x *ast.FuncDecl) bool {
	p := x.Type.Params.List[0]
	if id, ok := p.Type.(*ast.Ident); !ok || id.Name != "string" {
		return false
	}
	found := false
	ast.Inspect(x.Body, func(n ast.Node) bool {
		if r, ok := n.(*ast.RangeStmt); ok {
			id, ok := r.X.(*ast.Ident)
			found = found || ok && id.Name == p.Names[0].Name
		}
		return true
	})
	return found
}

package tree_test

import (
	"go/ast"
	"go/parser"
	"go/token"
	"testing"
)

// The chapter's ways: levels go up by a label's loop; groups of rows are told by a function that is ranged over.
func TestWays(t *testing.T) {
	f, err := parser.ParseFile(token.NewFileSet(), "tree.go", nil, 0)
	if err != nil {
		t.Fatal(err)
	}
	tells := map[string]bool{}
	var build *ast.FuncDecl
	for _, d := range f.Decls {
		x, ok := d.(*ast.FuncDecl)
		if !ok {
			continue
		}
		tells[x.Name.Name] = givesFunction(x)
		if x.Name.Name == "Build" {
			build = x
		}
	}
	if build == nil {
		t.Fatal("no Build")
	}
	loop := labelled(build)
	if loop == nil {
		t.Fatal("Build has no loop with a label that it leaves, or goes on with")
	}
	found := false
	ast.Inspect(loop, func(n ast.Node) bool {
		if r, ok := n.(*ast.RangeStmt); ok {
			if c, ok := r.X.(*ast.CallExpr); ok {
				id, ok := c.Fun.(*ast.Ident)
				found = found || ok && tells[id.Name]
			}
		}
		return true
	})
	if !found {
		t.Error("no function is ranged over in the loop of levels")
	}
}

// labelled is the loop of a function that has a label, which a break or a continue names.
func labelled(x *ast.FuncDecl) ast.Stmt {
	var loop ast.Stmt
	name, used := "", map[string]bool{}
	ast.Inspect(x, func(n ast.Node) bool {
		switch y := n.(type) {
		case *ast.LabeledStmt:
			name, loop = y.Label.Name, y.Stmt
		case *ast.BranchStmt:
			if y.Label != nil && y.Tok != token.GOTO {
				used[y.Label.Name] = true
			}
		}
		return true
	})
	if !used[name] {
		return nil
	}
	return loop
}

// givesFunction says whether a function returns one that takes another one: one to be ranged over.
func givesFunction(x *ast.FuncDecl) bool {
	found := false
	ast.Inspect(x.Body, func(n ast.Node) bool {
		r, ok := n.(*ast.ReturnStmt)
		if !ok || len(r.Results) != 1 {
			return true
		}
		l, ok := r.Results[0].(*ast.FuncLit)
		found = found || ok && len(l.Type.Params.List) == 1
		return true
	})
	return found
}

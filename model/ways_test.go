package model_test

import (
	"go/ast"
	"go/parser"
	"go/token"
	"testing"
)

// source are the package's functions, by name.
func source(t *testing.T) map[string]*ast.FuncDecl {
	funcs := map[string]*ast.FuncDecl{}
	for _, name := range []string{"model.go", "subs.go", "queue.go"} {
		f, err := parser.ParseFile(token.NewFileSet(), name, nil, 0)
		if err != nil {
			t.Fatal(err)
		}
		for _, d := range f.Decls {
			switch x := d.(type) {
			case *ast.FuncDecl:
				funcs[x.Name.Name] = x
			case *ast.GenDecl:
				if x.Tok == token.VAR {
					t.Errorf("%s: something is kept at the package's level", name)
				}
			}
		}
	}
	return funcs
}

// The chapter's first way: what a kind does is a method value in a map.
func TestWaysKinds(t *testing.T) {
	funcs := source(t)
	kinds := funcs["kinds"]
	if kinds == nil || kinds.Recv == nil {
		t.Fatal("no method tells what kinds do")
	}
	own := kinds.Recv.List[0].Names[0].Name
	n := 0
	ast.Inspect(kinds, func(node ast.Node) bool {
		l, ok := node.(*ast.CompositeLit)
		if !ok {
			return true
		}
		if _, ok := l.Type.(*ast.MapType); !ok {
			t.Error("kinds do not stand in a map")
		}
		for _, e := range l.Elts {
			kv, ok := e.(*ast.KeyValueExpr)
			if !ok {
				continue
			}
			s, ok := kv.Value.(*ast.SelectorExpr)
			if ok && isName(s.X, own) && funcs[s.Sel.Name] != nil && funcs[s.Sel.Name].Recv != nil {
				n++
			}
		}
		return false
	})
	if n != 12 {
		t.Errorf("%d kinds are method values, not 12", n)
	}
	if do := funcs["Do"]; do == nil || !finds(do, func(n ast.Node) bool {
		x, ok := n.(*ast.IndexExpr)
		return ok && finds(x.X, func(n ast.Node) bool { s, ok := n.(*ast.SelectorExpr); return ok && s.Sel.Name == "kinds" })
	}) {
		t.Error("Do does not look in the map")
	}
}

// The second: what is wrong panics, and is recovered in a deferred function, by an assertion.
func TestWaysPanic(t *testing.T) {
	funcs := source(t)
	if do := funcs["Do"]; do == nil || !finds(do, recovers) {
		t.Error("Do does not recover, in a deferred literal, by an assertion")
	}
	if must := funcs["must"]; must == nil || !finds(must, calls("panic")) {
		t.Error("must does not panic")
	}
	for _, name := range []string{"Do", "subscribe", "publish", "fetch", "ack", "ackTo", "tick", "annotate", "sub", "leased"} {
		if x := funcs[name]; x == nil || !finds(x, calls("must")) {
			t.Errorf("%s does not panic", name)
		}
	}
}

// recovers says whether something is a deferred literal, in which what is recovered is asserted to be of some type.
func recovers(n ast.Node) bool {
	d, ok := n.(*ast.DeferStmt)
	if !ok {
		return false
	}
	l, ok := d.Call.Fun.(*ast.FuncLit)
	return ok && finds(l, func(n ast.Node) bool {
		a, ok := n.(*ast.TypeAssertExpr)
		return ok && calls("recover")(a.X)
	})
}

// calls tells calls of a function from other things.
func calls(name string) func(ast.Node) bool {
	return func(n ast.Node) bool {
		c, ok := n.(*ast.CallExpr)
		return ok && isName(c.Fun, name)
	}
}

// isName says whether something is a name.
func isName(x ast.Expr, name string) bool {
	id, ok := x.(*ast.Ident)
	return ok && id.Name == name
}

// finds says whether there is something of a sort in something.
func finds(x ast.Node, sort func(ast.Node) bool) bool {
	found := false
	ast.Inspect(x, func(n ast.Node) bool {
		found = found || n != nil && sort(n)
		return !found
	})
	return found
}

package sha_test

import (
	"go/ast"
	"go/parser"
	"go/token"
	"strings"
	"testing"
)

// The chapter's ways: the numbers of the rounds stand in a table, a literal at its declaration, of an array; words turn by a package's help.
func TestWays(t *testing.T) {
	f, err := parser.ParseFile(token.NewFileSet(), "sha.go", nil, 0)
	if err != nil {
		t.Fatal(err)
	}
	tables := literals(t, f)
	found := false
	for name, n := range tables {
		found = found || n == 64 && reads(f, "Round", name)
	}
	if !found {
		t.Errorf("Round reads no table of 64 numbers: %v", tables)
	}
	if !turns(f) {
		t.Error("no word turns by the help of math/bits")
	}
}

// literals are the tables of a file, arrays of numbers that are written out, and how many numbers each has. Nothing else may stand at the package's level.
func literals(t *testing.T, f *ast.File) map[string]int {
	tables := map[string]int{}
	for _, d := range f.Decls {
		g, ok := d.(*ast.GenDecl)
		if !ok || g.Tok != token.VAR {
			continue
		}
		for _, s := range g.Specs {
			v := s.(*ast.ValueSpec)
			if len(v.Names) != 1 || len(v.Values) != 1 || !numbers(v.Values[0]) {
				t.Errorf("%s is no array of numbers that are written out", v.Names[0].Name)
				continue
			}
			tables[v.Names[0].Name] = len(v.Values[0].(*ast.CompositeLit).Elts)
		}
	}
	return tables
}

// numbers says whether a value is an array of numbers that are written out.
func numbers(e ast.Expr) bool {
	c, ok := e.(*ast.CompositeLit)
	if !ok {
		return false
	}
	a, ok := c.Type.(*ast.ArrayType)
	if !ok || a.Len == nil {
		return false
	}
	for _, e := range c.Elts {
		if l, ok := e.(*ast.BasicLit); !ok || l.Kind != token.INT {
			return false
		}
	}
	return true
}

// reads says whether a function of the file takes something out of a table.
func reads(f *ast.File, from, table string) bool {
	found := false
	for _, d := range f.Decls {
		x, ok := d.(*ast.FuncDecl)
		if !ok || x.Name.Name != from {
			continue
		}
		ast.Inspect(x, func(n ast.Node) bool {
			if i, ok := n.(*ast.IndexExpr); ok {
				id, ok := i.X.(*ast.Ident)
				found = found || ok && id.Name == table
			}
			return true
		})
	}
	return found
}

// turns says whether the file calls one of the functions of math/bits that turn words.
func turns(f *ast.File) bool {
	found := false
	ast.Inspect(f, func(n ast.Node) bool {
		if c, ok := n.(*ast.CallExpr); ok {
			if s, ok := c.Fun.(*ast.SelectorExpr); ok {
				id, ok := s.X.(*ast.Ident)
				found = found || ok && id.Name == "bits" && strings.HasPrefix(s.Sel.Name, "RotateLeft")
			}
		}
		return true
	})
	return found
}

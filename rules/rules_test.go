// Package rules tests what holds for the source of all layers: what each may call, and how it is written.
package rules

import (
	"bytes"
	"go/ast"
	"go/format"
	"go/parser"
	"go/token"
	"os"
	"path/filepath"
	"slices"
	"strconv"
	"strings"
	"testing"
)

// layers are the map of the document: what each layer calls.
var layers = map[string]string{
	"api":    "",
	"code":   "api",
	"crc":    "",
	"sha":    "",
	"dev":    "api",
	"page":   "api code crc",
	"tree":   "api code page",
	"log":    "api code crc",
	"store":  "api crc dev tree log",
	"topic":  "api",
	"state":  "api topic",
	"model":  "api topic state",
	"one":    "api code state",
	"two":    "api code state",
	"three":  "api code state",
	"mix":    "api code log state one two three",
	"move":   "api",
	"check":  "api code state one two three tree mix",
	"chunk":  "api crc sha",
	"pack":   "api code sha state mix chunk",
	"chain":  "api code sha log mix chunk pack",
	"broker": "api code sha dev store log state model mix move check chunk pack chain",
	"gate":   "api dev broker",
}

// library are the packages of the standard library that the language of the program has.
const library = "bytes cmp container/heap errors iter maps math math/bits slices sort strconv strings sync sync/atomic unicode unicode/utf8"

// longest is how many lines a function may have.
const longest = 60

func TestSource(t *testing.T) {
	for name := range layers {
		names, err := filepath.Glob(filepath.Join("..", name, "*"))
		if err != nil || len(names) == 0 {
			t.Errorf("%s: no files, %v", name, err)
		}
		for _, n := range names {
			if !strings.HasSuffix(n, ".go") {
				t.Errorf("%s: beside the Go files", n)
			} else if !strings.HasSuffix(n, "_test.go") {
				look(t, name, n)
			}
		}
	}
}

// look holds a file of a layer against the rules.
func look(t *testing.T, layer, name string) {
	text, err := os.ReadFile(name)
	if err != nil {
		t.Fatal(err)
	}
	fset := token.NewFileSet()
	f, err := parser.ParseFile(fset, name, text, parser.ParseComments)
	if err != nil {
		t.Fatal(err)
	}
	if same, err := format.Source(text); err != nil || !bytes.Equal(same, text) {
		t.Errorf("%s: not as gofmt lays it out", name)
	}
	for _, i := range f.Imports {
		if path, _ := strconv.Unquote(i.Path.Value); !mayImport(layer, path) {
			t.Errorf("%s: imports %s", name, path)
		}
	}
	for _, g := range f.Comments {
		for _, c := range g.List {
			if strings.HasPrefix(c.Text, "//go:") || strings.HasPrefix(c.Text, "// +build") {
				t.Errorf("%s: %s", name, c.Text)
			}
		}
	}
	for _, d := range f.Decls {
		x, ok := d.(*ast.FuncDecl)
		if !ok {
			continue
		}
		if n := fset.Position(x.End()).Line - fset.Position(x.Pos()).Line + 1; n > longest {
			t.Errorf("%s: %s has %d lines", name, x.Name.Name, n)
		}
	}
}

// mayImport says whether a layer may import a package.
func mayImport(layer, path string) bool {
	if own, ok := strings.CutPrefix(path, "roadstead/"); ok {
		return slices.Contains(strings.Fields(layers[layer]), own)
	}
	return slices.Contains(strings.Fields(library), path)
}

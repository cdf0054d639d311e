package checks

import (
	"bytes"
	"go/ast"
	"go/format"
	"go/parser"
	"go/token"
	"os"
	"path/filepath"
	"slices"
	"strconv"
	"strings"
	"testing"
)

// Packages by name, so that whatever else is laid beside the project for a test
// is left alone.
var packages = []string{
	"api", "beat", "cells", "chief", "cluster", "depot", "disk", "frames", "hash", "lin", "msgs",
	"pack", "play", "proxy", "quorum", "real", "replica", "ring", "store", "tags", "wal",
}

var library = []string{
	"bytes", "cmp", "container/heap", "errors", "iter", "maps", "math", "math/bits", "slices", "sort",
	"strconv", "strings", "sync", "sync/atomic", "unicode", "unicode/utf8",
}

var onlySync = []string{"Mutex", "RWMutex", "WaitGroup", "Once"}

const mostLines = 66

type source struct {
	name string
	text []byte
	fset *token.FileSet
	file *ast.File
}

func sources(t *testing.T) []source {
	var out []source
	for _, p := range packages {
		files, err := os.ReadDir(filepath.Join("..", p))
		if err != nil {
			t.Fatal(err)
		}
		for _, f := range files {
			name := filepath.Join("..", p, f.Name())
			if strings.HasSuffix(name, "_test.go") || f.IsDir() {
				continue
			}
			if !strings.HasSuffix(name, ".go") {
				t.Errorf("%s is no Go file", name)
				continue
			}
			text, err := os.ReadFile(name)
			if err != nil {
				t.Fatal(err)
			}
			fset := token.NewFileSet()
			file, err := parser.ParseFile(fset, name, text, parser.ParseComments)
			if err != nil {
				t.Fatal(err)
			}
			out = append(out, source{name, text, fset, file})
		}
	}
	return out
}

func TestLayout(t *testing.T) {
	for _, s := range sources(t) {
		if want, err := format.Source(s.text); err != nil || !bytes.Equal(want, s.text) {
			t.Errorf("%s is not laid out by gofmt", s.name)
		}
		for _, d := range s.file.Decls {
			if f, ok := d.(*ast.FuncDecl); ok {
				if n := s.fset.Position(f.End()).Line - s.fset.Position(f.Pos()).Line + 1; n > mostLines {
					t.Errorf("%s: %s has %d lines", s.name, f.Name.Name, n)
				}
			}
		}
	}
}

func TestImports(t *testing.T) {
	for _, s := range sources(t) {
		for _, i := range s.file.Imports {
			path, _ := strconv.Unquote(i.Path.Value)
			if !slices.Contains(library, path) && !strings.HasPrefix(path, "icehouse/") {
				t.Errorf("%s imports %s", s.name, path)
			}
		}
		for _, g := range s.file.Comments {
			for _, c := range g.List {
				if strings.HasPrefix(c.Text, "//go:") || strings.HasPrefix(c.Text, "// +build") {
					t.Errorf("%s: %s", s.name, c.Text)
				}
			}
		}
	}
}

func TestLeftOut(t *testing.T) {
	for _, s := range sources(t) {
		ast.Inspect(s.file, func(n ast.Node) bool {
			switch x := n.(type) {
			case *ast.SelectorExpr:
				p, ok := x.X.(*ast.Ident)
				if ok && (p.Name == "sync" && !slices.Contains(onlySync, x.Sel.Name) || p.Name == "iter" && strings.HasPrefix(x.Sel.Name, "Pull")) {
					t.Errorf("%s: %s.%s", s.name, p.Name, x.Sel.Name)
				}
			case *ast.CallExpr:
				if f, ok := x.Fun.(*ast.Ident); ok && (f.Name == "print" || f.Name == "println") {
					t.Errorf("%s: %s", s.name, f.Name)
				}
			}
			return true
		})
	}
}

// At package level a variable has a value of its own, that is written out where
// it is declared, and is neither a map, a function, a pointer nor a lone text.
func TestPackageLevel(t *testing.T) {
	for _, s := range sources(t) {
		for _, d := range s.file.Decls {
			g, ok := d.(*ast.GenDecl)
			if !ok || g.Tok != token.VAR {
				continue
			}
			for _, spec := range g.Specs {
				v := spec.(*ast.ValueSpec)
				if len(v.Values) != len(v.Names) {
					t.Errorf("%s: %s has no value", s.name, v.Names[0].Name)
				}
				for i, x := range v.Values {
					if !mayStand(x) {
						t.Errorf("%s: %s may not stand at package level", s.name, v.Names[i].Name)
					}
				}
			}
		}
	}
}

func mayStand(x ast.Expr) bool {
	switch x := x.(type) {
	case *ast.CompositeLit:
		_, isMap := x.Type.(*ast.MapType)
		return !isMap
	case *ast.CallExpr:
		f, ok := x.Fun.(*ast.SelectorExpr)
		if !ok {
			return false
		}
		p, ok := f.X.(*ast.Ident)
		return ok && p.Name == "errors" && f.Sel.Name == "New"
	case *ast.BasicLit:
		return x.Kind == token.INT || x.Kind == token.CHAR
	case *ast.Ident:
		return x.Name == "true" || x.Name == "false"
	case *ast.UnaryExpr:
		return x.Op != token.AND && mayStand(x.X)
	case *ast.BinaryExpr:
		return mayStand(x.X) && mayStand(x.Y)
	}
	return false
}

// Package rules holds the project's files against the rules of the language that a text can show: what is imported, what stands at package level, how long a function is.
package rules

import (
	"bytes"
	"go/ast"
	"go/format"
	"go/parser"
	"go/token"
	"io/fs"
	"os"
	"path/filepath"
	"slices"
	"strconv"
	"strings"
	"testing"
)

const (
	root      = ".."
	mostLines = 60
	library   = " bytes cmp container/heap errors iter maps math math/big math/bits slices sort strconv strings sync sync/atomic unicode unicode/utf8 "
	folders   = " api conf cover delta expr field flow gate keeper ledger lower model query rib run scan space step tern trail xfer "
)

// files: the paths of all files of the program's packages, without the tests that .ci/run lays beside them.
func files(t *testing.T) []string {
	t.Helper()
	var list []string
	err := filepath.WalkDir(root, func(path string, d fs.DirEntry, err error) error {
		name := d.Name()
		if err == nil && d.IsDir() && path != root && (name[0] == '.' || name == "sharedtests") {
			return filepath.SkipDir
		}
		if err == nil && !d.IsDir() && filepath.Dir(path) != root {
			list = append(list, path)
		}
		return err
	})
	if err != nil || len(list) == 0 {
		t.Fatalf("%d files: %v", len(list), err)
	}
	return list
}

// eachSource calls look with every Go file of the program that is no test.
func eachSource(t *testing.T, look func(path string, fset *token.FileSet, file *ast.File)) {
	t.Helper()
	for _, path := range files(t) {
		if strings.HasSuffix(path, "_test.go") {
			continue
		}
		fset := token.NewFileSet()
		file, err := parser.ParseFile(fset, path, nil, parser.ParseComments)
		if err != nil {
			t.Fatal(err)
		}
		look(path, fset, file)
	}
}

func TestFilesAreGoAndLaidOut(t *testing.T) {
	for _, path := range files(t) {
		text, err := os.ReadFile(path)
		if err != nil || filepath.Ext(path) != ".go" {
			t.Errorf("%s is no Go file: %v", path, err)
			continue
		}
		if laid, err := format.Source(text); err != nil || !bytes.Equal(laid, text) {
			t.Errorf("%s is not laid out by gofmt: %v", path, err)
		}
	}
}

func TestEveryLayerIsThere(t *testing.T) {
	var seen []string
	eachSource(t, func(path string, _ *token.FileSet, file *ast.File) {
		seen = append(seen, file.Name.Name)
		if filepath.Base(filepath.Dir(path)) != file.Name.Name {
			t.Errorf("%s: package %s", path, file.Name.Name)
		}
	})
	for _, name := range strings.Fields(folders) {
		if !slices.Contains(seen, name) {
			t.Errorf("package %s is missing", name)
		}
	}
}

func TestImports(t *testing.T) {
	eachSource(t, func(path string, _ *token.FileSet, file *ast.File) {
		for _, spec := range file.Imports {
			name, _ := strconv.Unquote(spec.Path.Value)
			if !strings.HasPrefix(name, "reach/") && !strings.Contains(library, " "+name+" ") {
				t.Errorf("%s imports %s", path, name)
			}
		}
	})
}

func TestNoDirectives(t *testing.T) {
	eachSource(t, func(path string, _ *token.FileSet, file *ast.File) {
		for _, group := range file.Comments {
			for _, c := range group.List {
				if strings.HasPrefix(c.Text, "//go:") || strings.HasPrefix(c.Text, "// +build") {
					t.Errorf("%s: %s", path, c.Text)
				}
			}
		}
	})
}

func TestFunctionsAreShort(t *testing.T) {
	eachSource(t, func(path string, fset *token.FileSet, file *ast.File) {
		for _, d := range file.Decls {
			if f, ok := d.(*ast.FuncDecl); ok {
				if n := fset.Position(f.End()).Line - fset.Position(f.Pos()).Line + 1; n > mostLines {
					t.Errorf("%s: %s has %d lines", path, f.Name.Name, n)
				}
			}
		}
	})
}

// fixedValue: whether a variable at package level may have this value.
func fixedValue(e ast.Expr) bool {
	switch x := e.(type) {
	case *ast.CompositeLit:
		_, isMap := x.Type.(*ast.MapType)
		return !isMap
	case *ast.CallExpr:
		f, ok := x.Fun.(*ast.SelectorExpr)
		return ok && f.Sel.Name == "New" && len(x.Args) == 1
	case *ast.BasicLit:
		return x.Kind == token.INT || x.Kind == token.CHAR
	case *ast.Ident:
		return x.Name == "true" || x.Name == "false"
	}
	return false
}

func TestVariablesOfPackagesAreFixed(t *testing.T) {
	eachSource(t, func(path string, _ *token.FileSet, file *ast.File) {
		for _, d := range file.Decls {
			g, ok := d.(*ast.GenDecl)
			if !ok || g.Tok != token.VAR {
				continue
			}
			for _, s := range g.Specs {
				v := s.(*ast.ValueSpec)
				if len(v.Values) == 0 || slices.ContainsFunc(v.Values, func(e ast.Expr) bool { return !fixedValue(e) }) {
					t.Errorf("%s: the variable %s", path, v.Names[0].Name)
				}
			}
		}
	})
}

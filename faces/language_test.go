package faces

import (
	"go/ast"
	"go/parser"
	"go/token"
	"os"
	"path/filepath"
	"slices"
	"strconv"
	"strings"
	"testing"
)

// layers are the program's packages, each behind those on which it may stand.
func layers() []string {
	return []string{"api", "wire", "stat", "msg", "frame", "names", "users", "auth", "nodes", "rules", "fids", "seq", "solo", "locks",
		"tags", "rows", "srv", "hist", "client", "space", "relay", "dump", "bulk", "lab"}
}

// library is what may be imported of Go's own; of those with a list, only what stands there.
func library() map[string][]string {
	return map[string][]string{
		"bytes": nil, "cmp": nil, "container/heap": nil, "errors": nil, "iter": {"Seq", "Seq2"}, "maps": nil, "math": nil, "math/bits": nil,
		"slices": nil, "sort": nil, "strconv": nil, "strings": nil, "sync": {"Mutex", "RWMutex", "WaitGroup", "Once"}, "sync/atomic": nil,
		"unicode": nil, "unicode/utf8": nil,
	}
}

// standsOn is what the chapters of the layers that are built let them import of the program. Of the others it knows no more than that it lies below them.
func standsOn() map[string][]string {
	return map[string][]string{
		"api": {}, "wire": {"api"}, "stat": {"api", "wire"}, "msg": {"api", "wire", "stat"}, "frame": {"api"},
		"names": {"api", "wire"}, "users": {"api", "wire"}, "auth": {"api", "wire", "users"},
		"nodes": {"api", "wire", "names"},
		"rules": {"api", "stat", "names", "users", "nodes"},
		"fids":  {"api"},
		"seq":   {"api", "msg", "stat", "users", "auth", "nodes", "rules", "fids"},
		"solo":  {"api", "msg", "frame", "seq"},
		"locks": {"api"},
		"tags":  {"api"},
	}
}

// source is a package's files, but its tests.
func source(t *testing.T, layer string) (*token.FileSet, []*ast.File) {
	t.Helper()
	names, _ := filepath.Glob(filepath.Join("..", layer, "*.go"))
	fset := token.NewFileSet()
	var files []*ast.File
	for _, name := range names {
		if strings.HasSuffix(name, "_test.go") {
			continue
		}
		f, err := parser.ParseFile(fset, name, nil, parser.ParseComments)
		if err != nil {
			t.Fatal(err)
		}
		files = append(files, f)
	}
	if len(files) == 0 {
		t.Fatalf("%s: no files", layer)
	}
	return fset, files
}

// A layer imports nothing but the library's few packages and what lies below it; of that, what its chapter names.
func TestImports(t *testing.T) {
	for n, layer := range layers() {
		_, files := source(t, layer)
		for _, f := range files {
			for _, s := range f.Imports {
				path, _ := strconv.Unquote(s.Path.Value)
				if !mayImport(n, path) {
					t.Errorf("%s imports %s", layer, path)
				}
				checkPicks(t, layer, f, path)
			}
		}
	}
}

func mayImport(n int, path string) bool {
	own, ok := strings.CutPrefix(path, "verger/")
	if !ok {
		_, ok = library()[path]
		return ok
	}
	at := slices.Index(layers(), own)
	if on, built := standsOn()[layers()[n]]; built && at >= 0 {
		return slices.Contains(on, own)
	}
	return at < n // a package that is no layer is the program's own choice
}

// checkPicks says what of an imported package is used that may not be.
func checkPicks(t *testing.T, layer string, f *ast.File, path string) {
	picks := library()[path]
	ast.Inspect(f, func(n ast.Node) bool {
		x, ok := n.(*ast.SelectorExpr)
		if !ok || picks == nil {
			return true
		}
		if from, ok := x.X.(*ast.Ident); ok && from.Name == path && !slices.Contains(picks, x.Sel.Name) {
			t.Errorf("%s uses %s.%s", layer, path, x.Sel.Name)
		}
		return true
	})
}

// No line speaks to the compiler, and nothing is printed.
func TestPlainGo(t *testing.T) {
	for _, layer := range layers() {
		fset, files := source(t, layer)
		for _, f := range files {
			for _, group := range f.Comments {
				for _, c := range group.List {
					if strings.HasPrefix(c.Text, "//go:") || strings.HasPrefix(c.Text, "// +build") {
						t.Errorf("%s: %s", fset.Position(c.Pos()), c.Text)
					}
				}
			}
			ast.Inspect(f, func(n ast.Node) bool {
				if c, ok := n.(*ast.CallExpr); ok {
					if name, ok := c.Fun.(*ast.Ident); ok && (name.Name == "print" || name.Name == "println") {
						t.Errorf("%s: %s", fset.Position(c.Pos()), name.Name)
					}
				}
				return true
			})
		}
	}
}

// Beside its Go files a package has none.
func TestGoFilesAlone(t *testing.T) {
	for _, layer := range layers() {
		entries, err := os.ReadDir(filepath.Join("..", layer))
		if err != nil {
			t.Fatal(err)
		}
		for _, e := range entries {
			if e.Name() != "testdata" && !strings.HasSuffix(e.Name(), ".go") {
				t.Errorf("%s: %s", layer, e.Name())
			}
		}
	}
}

package faces

import (
	"errors"
	"go/ast"
	"go/types"
	"testing"
)

// reach is what the functions of a package name, and which of the language's ways are in them.
type reach struct {
	names   map[string][]string // of a function ("F", or "T.F"): what its body names
	generic map[string]bool
	ranges  map[string]bool // over a string
}

// nothing imports no package: of what a test here asks, the package's own text tells enough.
type nothing struct{}

func (nothing) Import(string) (*types.Package, error) { return nil, errors.New("not looked at") }

func reachOf(t *testing.T, layer string) reach {
	fset, files := source(t, layer)
	info := &types.Info{Types: map[ast.Expr]types.TypeAndValue{}}
	c := types.Config{Importer: nothing{}, Error: func(error) {}}
	c.Check(layer, fset, files, info)
	r := reach{map[string][]string{}, map[string]bool{}, map[string]bool{}}
	for _, f := range files {
		for _, d := range f.Decls {
			if x, ok := d.(*ast.FuncDecl); ok {
				r.add(x, info)
			}
		}
	}
	return r
}

func (r reach) add(x *ast.FuncDecl, info *types.Info) {
	name := x.Name.Name
	if x.Recv != nil {
		ast.Inspect(x.Recv, func(n ast.Node) bool {
			if star, ok := n.(*ast.StarExpr); ok {
				if id, ok := star.X.(*ast.Ident); ok {
					name = id.Name + "." + name
				}
			}
			return true
		})
	}
	r.generic[name] = x.Type.TypeParams != nil
	ast.Inspect(x.Body, func(n ast.Node) bool {
		switch y := n.(type) {
		case *ast.Ident:
			r.names[name] = append(r.names[name], y.Name, "Writer."+y.Name, "Reader."+y.Name)
		case *ast.RangeStmt:
			if b, ok := info.Types[y.X].Type.(*types.Basic); ok && b.Info()&types.IsString != 0 {
				r.ranges[name] = true
			}
		}
		return true
	})
}

// from is all that a function comes to, itself too.
func (r reach) from(name string) map[string]bool {
	seen, work := map[string]bool{}, []string{name}
	for len(work) > 0 {
		n := work[0]
		work = work[1:]
		if !seen[n] {
			seen[n] = true
			work = append(work, r.names[n]...)
		}
	}
	return seen
}

// Numbers of all four sizes are written by one generic function and read by one.
func TestWayOfNumbers(t *testing.T) {
	r := reachOf(t, "wire")
	for _, face := range []string{"Writer", "Reader"} {
		shared := 0
		for name := range r.from(face + ".U8") {
			if r.generic[name] && r.from(face + ".U16")[name] && r.from(face + ".U32")[name] && r.from(face + ".U64")[name] {
				shared++
			}
		}
		if shared == 0 {
			t.Errorf("%s: no generic function of all four sizes", face)
		}
	}
}

// A text is looked through by a range over it.
func TestWayOfTexts(t *testing.T) {
	r := reachOf(t, "wire")
	for _, face := range []string{"Good", "Writer.Text", "Reader.Text"} {
		found := false
		for name := range r.from(face) {
			found = found || r.ranges[name]
		}
		if !found {
			t.Errorf("%s: no range over a string", face)
		}
	}
}

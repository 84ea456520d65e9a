package faces

import (
	"errors"
	"go/ast"
	"go/token"
	"go/types"
	"slices"
	"strings"
	"testing"
)

// reach is what the functions of a package name, and which of the language's ways are in them.
type reach struct {
	names   map[string][]string // of a function ("F", or "T.F"): what it names; with a dot ahead, where it may be a method
	methods map[string][]string // of such a name: the methods that are called so
	generic map[string]bool
	ranges  map[string]bool // over a string
	rows    map[string]int  // of its longest table, how many rows of literals it has
	panics  map[string]bool
	catches map[string]bool // by a deferred function literal
	acts    map[string]bool // of a struct type: it has functions in its fields
}

// nothing imports no package: of what a test here asks, the package's own text tells enough.
type nothing struct{}

func (nothing) Import(string) (*types.Package, error) { return nil, errors.New("not looked at") }

func reachOf(t *testing.T, layer string) reach {
	fset, files := source(t, layer)
	info := &types.Info{Types: map[ast.Expr]types.TypeAndValue{}}
	c := types.Config{Importer: nothing{}, Error: func(error) {}}
	c.Check(layer, fset, files, info)
	r := reach{map[string][]string{}, map[string][]string{}, map[string]bool{}, map[string]bool{}, map[string]int{}, map[string]bool{}, map[string]bool{}, map[string]bool{}}
	for _, f := range files {
		for _, d := range f.Decls {
			switch x := d.(type) {
			case *ast.FuncDecl:
				r.add(x, info)
			case *ast.GenDecl:
				r.addTypes(x)
			}
		}
	}
	return r
}

func (r reach) addTypes(d *ast.GenDecl) {
	for _, s := range d.Specs {
		spec, ok := s.(*ast.TypeSpec)
		if !ok {
			continue
		}
		if x, ok := spec.Type.(*ast.StructType); ok {
			for _, f := range x.Fields.List {
				if _, ok := f.Type.(*ast.FuncType); ok {
					r.acts[spec.Name.Name] = true
				}
			}
		}
	}
}

// nameOf is a function's name, or a method's with its type's ahead.
func nameOf(x *ast.FuncDecl) string {
	name := x.Name.Name
	if x.Recv != nil {
		ast.Inspect(x.Recv, func(n ast.Node) bool {
			if star, ok := n.(*ast.StarExpr); ok {
				if id, ok := star.X.(*ast.Ident); ok {
					name = id.Name + "." + name
				}
			}
			return true
		})
	}
	return name
}

func (r reach) add(x *ast.FuncDecl, info *types.Info) {
	name := nameOf(x)
	if x.Recv != nil {
		r.methods["."+x.Name.Name] = append(r.methods["."+x.Name.Name], name)
	}
	r.generic[name] = x.Type.TypeParams != nil
	for _, n := range []ast.Node{x.Type, x.Body} {
		ast.Inspect(n, func(n ast.Node) bool { return r.addNode(name, n, info) })
	}
}

func (r reach) addNode(name string, n ast.Node, info *types.Info) bool {
	switch y := n.(type) {
	case *ast.Ident:
		r.names[name] = append(r.names[name], y.Name)
	case *ast.SelectorExpr:
		r.names[name] = append(r.names[name], "."+y.Sel.Name)
		ast.Inspect(y.X, func(n ast.Node) bool { return r.addNode(name, n, info) })
		return false
	case *ast.RangeStmt:
		if b, ok := info.Types[y.X].Type.(*types.Basic); ok && b.Info()&types.IsString != 0 {
			r.ranges[name] = true
		}
	case *ast.CompositeLit:
		rows := 0
		for _, e := range y.Elts {
			if _, ok := e.(*ast.CompositeLit); ok {
				rows++
			}
		}
		r.rows[name] = max(r.rows[name], rows)
	case *ast.CallExpr:
		if id, ok := y.Fun.(*ast.Ident); ok && id.Name == "panic" {
			r.panics[name] = true
		}
	case *ast.DeferStmt:
		if f, ok := y.Call.Fun.(*ast.FuncLit); ok && calls(f, "recover") {
			r.catches[name] = true
		}
	}
	return true
}

func calls(n ast.Node, builtin string) bool {
	found := false
	ast.Inspect(n, func(n ast.Node) bool {
		if c, ok := n.(*ast.CallExpr); ok {
			id, ok := c.Fun.(*ast.Ident)
			found = found || ok && id.Name == builtin
		}
		return true
	})
	return found
}

// from is all that a function comes to, itself too.
func (r reach) from(name string) map[string]bool {
	seen, work := map[string]bool{}, []string{name}
	for len(work) > 0 {
		n := work[0]
		work = work[1:]
		if !seen[n] {
			seen[n] = true
			work = append(work, r.names[n]...)
			work = append(work, r.methods[n]...)
		}
	}
	return seen
}

// Numbers of all four sizes are written by one generic function and read by one.
func TestWayOfNumbers(t *testing.T) {
	r := reachOf(t, "wire")
	for _, face := range []string{"Writer", "Reader"} {
		shared := 0
		for name := range r.from(face + ".U8") {
			if r.generic[name] && r.from(face + ".U16")[name] && r.from(face + ".U32")[name] && r.from(face + ".U64")[name] {
				shared++
			}
		}
		if shared == 0 {
			t.Errorf("%s: no generic function of all four sizes", face)
		}
	}
}

// A text is looked through by a range over it.
func TestWayOfTexts(t *testing.T) {
	for layer, faces := range map[string][]string{"wire": {"Good", "Writer.Text", "Reader.Text"}, "msg": {"Text", "Parse"}, "names": {"Match"}} {
		r := reachOf(t, layer)
		for _, face := range faces {
			if !r.reaches(face, r.ranges) {
				t.Errorf("%s: %s: no range over a string", layer, face)
			}
		}
	}
}

// reaches tells whether a function comes to one of a set.
func (r reach) reaches(face string, set map[string]bool) bool {
	for name := range r.from(face) {
		if set[name] {
			return true
		}
	}
	return false
}

// What a kind of message uses stands in a table of literals, and what is done for a field are functions in fields.
func TestWayOfKinds(t *testing.T) {
	r := reachOf(t, "msg")
	for _, face := range []string{"Encode", "Decode", "Clean", "Text", "Parse"} {
		rows := 0
		for name := range r.from(face) {
			rows = max(rows, r.rows[name])
		}
		if rows != 27 {
			t.Errorf("%s: a table of %d rows", face, rows)
		}
		if !r.reaches(face, r.acts) {
			t.Errorf("%s: no functions in fields", face)
		}
	}
}

// What cannot be read on (a line, a pattern), and what refuses a request, is given up by panic, deep inside; the face recovers it in a deferred function.
func TestWayOfGivingUp(t *testing.T) {
	for layer, faces := range map[string][]string{"msg": {"Parse"}, "names": {"Match", "Words"}, "users": {"Parse", "Print", "Table.Edit"}, "seq": {"World.Decide"}} {
		r := reachOf(t, layer)
		for _, face := range faces {
			if !r.reaches(face, r.panics) || r.panics[face] {
				t.Errorf("%s: %s: no panic deep inside", layer, face)
			}
			if !r.catches[face] {
				t.Errorf("%s: %s: no recover in a deferred function", layer, face)
			}
		}
	}
}

// All lays hold of a cutter in a closure; a label leaves two loops at once there.
func TestWayOfFrames(t *testing.T) {
	fset, files := source(t, "frame")
	info := &types.Info{Uses: map[*ast.Ident]types.Object{}}
	c := types.Config{Importer: nothing{}, Error: func(error) {}}
	c.Check("frame", fset, files, info)
	held, left := false, false
	for _, f := range files {
		for _, d := range f.Decls {
			x, ok := d.(*ast.FuncDecl)
			if !ok || nameOf(x) != "All" {
				continue
			}
			ast.Inspect(x.Body, func(n ast.Node) bool {
				if lit, ok := n.(*ast.FuncLit); ok {
					held = held || laysHoldOf(lit, "Cutter", info)
				}
				if l, ok := n.(*ast.LabeledStmt); ok {
					left = left || leftFromWithin(l)
				}
				return true
			})
		}
	}
	if !held {
		t.Error("All: no closure that lays hold of a cutter")
	}
	if !left {
		t.Error("All: no label by which two loops are left at once")
	}
}

// laysHoldOf tells whether a function literal uses something of that type of the package that stands outside of it.
func laysHoldOf(lit *ast.FuncLit, kind string, info *types.Info) bool {
	found := false
	ast.Inspect(lit.Body, func(n ast.Node) bool {
		id, ok := n.(*ast.Ident)
		if !ok {
			return true
		}
		v, ok := info.Uses[id].(*types.Var)
		if !ok || v.Pos() >= lit.Pos() && v.Pos() < lit.End() {
			return true
		}
		of := v.Type()
		if p, ok := of.(*types.Pointer); ok {
			of = p.Elem()
		}
		named, ok := of.(*types.Named)
		found = found || ok && named.Obj().Name() == kind
		return true
	})
	return found
}

// leftFromWithin tells whether a loop that has a label is left, by that label, out of a loop within it.
func leftFromWithin(l *ast.LabeledStmt) bool {
	found := false
	for _, inner := range loops(l.Stmt)[1:] {
		ast.Inspect(inner, func(n ast.Node) bool {
			b, ok := n.(*ast.BranchStmt)
			found = found || ok && b.Label != nil && b.Label.Name == l.Label.Name
			return true
		})
	}
	return found
}

// loops are the loops of a statement, itself ahead of all, whether it is one or not.
func loops(s ast.Stmt) []ast.Node {
	l := []ast.Node{s}
	ast.Inspect(s, func(n ast.Node) bool {
		switch n.(type) {
		case *ast.ForStmt, *ast.RangeStmt:
			if n != ast.Node(s) {
				l = append(l, n)
			}
		}
		return true
	})
	return l
}

// What a cutter has in its hand is an array and a list.
func TestWayOfTheHand(t *testing.T) {
	_, files := source(t, "frame")
	arrays, lists := 0, 0
	for _, f := range files {
		ast.Inspect(f, func(n ast.Node) bool {
			spec, ok := n.(*ast.TypeSpec)
			if !ok || spec.Name.Name != "Cutter" {
				return true
			}
			ast.Inspect(spec.Type, func(n ast.Node) bool {
				if a, ok := n.(*ast.ArrayType); ok && a.Len != nil {
					arrays++
				} else if ok {
					lists++
				}
				return true
			})
			return false
		})
	}
	if arrays == 0 || lists == 0 {
		t.Errorf("a cutter has %d arrays and %d lists", arrays, lists)
	}
}

// Who belongs to whom stands in a map whose keys are structs of two names.
func TestWayOfBonds(t *testing.T) {
	_, files := source(t, "users")
	pairs, keys := map[string]bool{}, map[string]bool{}
	for _, f := range files {
		ast.Inspect(f, func(n ast.Node) bool {
			if x, ok := n.(*ast.TypeSpec); ok {
				s, ok := x.Type.(*ast.StructType)
				pairs[x.Name.Name] = ok && isTwoNames(s)
				if ok && x.Name.Name == "Table" {
					addKeys(s, keys)
				}
			}
			return true
		})
	}
	for key := range keys {
		if pairs[key] {
			return
		}
	}
	t.Errorf("a table has no map whose keys are structs of two names: %v", keys)
}

// isTwoNames tells whether a struct is two texts.
func isTwoNames(s *ast.StructType) bool {
	names := 0
	for _, f := range s.Fields.List {
		id, ok := f.Type.(*ast.Ident)
		if !ok || id.Name != "string" {
			return false
		}
		names += len(f.Names)
	}
	return names == 2
}

// addKeys adds the types of the keys of a struct's maps.
func addKeys(s *ast.StructType, keys map[string]bool) {
	for _, f := range s.Fields.List {
		if m, ok := f.Type.(*ast.MapType); ok {
			if id, ok := m.Key.(*ast.Ident); ok {
				keys[id.Name] = true
			}
		}
	}
}

// Accounts are gone through by ranges over a function.
func TestWayOfAccounts(t *testing.T) {
	_, files := source(t, "users")
	ranges := 0
	for _, f := range files {
		ast.Inspect(f, func(n ast.Node) bool {
			r, ok := n.(*ast.RangeStmt)
			if !ok {
				return true
			}
			if c, ok := r.X.(*ast.CallExpr); ok {
				if s, ok := c.Fun.(*ast.SelectorExpr); ok && s.Sel.Name == "Accounts" {
					ranges++
				}
			}
			return true
		})
	}
	if ranges == 0 {
		t.Error("no range over Accounts")
	}
}

// function is a package's function of that name.
func function(t *testing.T, layer, name string) *ast.FuncDecl {
	t.Helper()
	_, files := source(t, layer)
	for _, f := range files {
		for _, d := range f.Decls {
			if x, ok := d.(*ast.FuncDecl); ok && nameOf(x) == name {
				return x
			}
		}
	}
	t.Fatalf("%s: no function %s", layer, name)
	return nil
}

// A sum goes over as many numbers as are handed in, one by one; and what is shown in an exchange is shown by sums.
func TestWayOfSums(t *testing.T) {
	sum := function(t, "auth", "Sum")
	params := sum.Type.Params.List
	last := params[len(params)-1]
	if _, ok := last.Type.(*ast.Ellipsis); !ok || len(last.Names) != 1 || !rangesOver(sum.Body, last.Names[0].Name) {
		t.Error("Sum: no range over the numbers handed in")
	}
	r := reachOf(t, "auth")
	for _, face := range []string{"Ours", "Read", "Write", "Answer", "Confirms"} {
		if !r.from(face)["Sum"] {
			t.Errorf("%s: no Sum", face)
		}
	}
}

func rangesOver(n ast.Node, name string) bool {
	found := false
	ast.Inspect(n, func(n ast.Node) bool {
		if x, ok := n.(*ast.RangeStmt); ok {
			id, ok := x.X.(*ast.Ident)
			found = found || ok && id.Name == name
		}
		return true
	})
	return found
}

// What is done at each step of a Talk stands in a switch over the steps, which are constants.
func TestWayOfSteps(t *testing.T) {
	for _, face := range []string{"Read", "Write"} {
		steps := 0
		ast.Inspect(function(t, "auth", face).Body, func(n ast.Node) bool {
			x, ok := n.(*ast.SwitchStmt)
			if !ok {
				return true
			}
			if over, ok := x.Tag.(*ast.SelectorExpr); ok && over.Sel.Name == "Step" {
				steps += casesOf(x, "Talk")
			}
			return true
		})
		if steps < 2 {
			t.Errorf("%s: a switch over %d steps of a Talk", face, steps)
		}
	}
}

// casesOf is how many cases of a switch are names of package api that begin so.
func casesOf(x *ast.SwitchStmt, begin string) int {
	n := 0
	for _, s := range x.Body.List {
		for _, e := range s.(*ast.CaseClause).List {
			if sel, ok := e.(*ast.SelectorExpr); ok && strings.HasPrefix(sel.Sel.Name, begin) {
				n++
			}
		}
	}
	return n
}

// fieldsOf are the fields of a package's struct type, by the texts of their types, and these types.
func fieldsOf(t *testing.T, layer, name string) map[string]ast.Expr {
	t.Helper()
	fields := map[string]ast.Expr{}
	if s, ok := typeOf(t, layer, name).(*ast.StructType); ok {
		for _, f := range s.Fields.List {
			fields[types.ExprString(f.Type)] = f.Type
		}
	}
	return fields
}

// typeOf is what a package's type of that name is; nothing, if there is none.
func typeOf(t *testing.T, layer, name string) ast.Expr {
	t.Helper()
	var is ast.Expr
	_, files := source(t, layer)
	for _, f := range files {
		ast.Inspect(f, func(n ast.Node) bool {
			if x, ok := n.(*ast.TypeSpec); ok && x.Name.Name == name {
				is = x.Type
			}
			return true
		})
	}
	return is
}

// A child is found in a map whose key is a struct: the directory's path and the name.
func TestWayOfChildren(t *testing.T) {
	for _, f := range fieldsOf(t, "nodes", "Store") {
		m, ok := f.(*ast.MapType)
		if !ok {
			continue
		}
		key := fieldsOf(t, "nodes", types.ExprString(m.Key))
		if len(key) == 2 && key["uint64"] != nil && key["string"] != nil {
			return
		}
	}
	t.Error("a store has no map whose keys are a path and a name")
}

// A file's bytes are kept in blocks, which are arrays as long as a block is.
func TestWayOfBlocks(t *testing.T) {
	for text, f := range fieldsOf(t, "nodes", "node") {
		kept := ""
		ast.Inspect(f, func(n ast.Node) bool {
			if id, ok := n.(*ast.Ident); ok {
				kept = id.Name
			}
			return true
		})
		if a, ok := typeOf(t, "nodes", kept).(*ast.ArrayType); ok && a.Len != nil && types.ExprString(a.Len) == "api.BlockSize" && text != kept {
			return
		}
	}
	t.Error("a node has no blocks")
}

// Each node has a mutex, and the store has one; each is let go of in a deferred call.
func TestWayOfNodesLocks(t *testing.T) {
	for _, name := range []string{"Store", "node"} {
		if fieldsOf(t, "nodes", name)["sync.Mutex"] == nil {
			t.Errorf("%s: no mutex", name)
		}
	}
	_, files := source(t, "nodes")
	freed, deferred := 0, 0
	for _, f := range files {
		ast.Inspect(f, func(n ast.Node) bool {
			if d, ok := n.(*ast.DeferStmt); ok && frees(d.Call) {
				deferred++
			}
			if c, ok := n.(*ast.CallExpr); ok && frees(c) {
				freed++
			}
			return true
		})
	}
	if freed == 0 || freed != deferred {
		t.Errorf("of %d calls that let go of a lock %d are deferred", freed, deferred)
	}
	r := reachOf(t, "nodes")
	for _, face := range []string{"Do", "Node", "Child", "After", "Read", "Next", "Count", "All", "Clone"} {
		if !r.from("Store." + face)[".Lock"] {
			t.Errorf("%s: no lock is taken", face)
		}
	}
}

func frees(c *ast.CallExpr) bool {
	s, ok := c.Fun.(*ast.SelectorExpr)
	return ok && s.Sel.Name == "Unlock"
}

// What is refused of each field of a record, and how it is set, stands in a table of functions, in the record's order, made within a function.
func TestWayOfRefusals(t *testing.T) {
	want := []string{"Type", "Dev", "QidKind", "QidVers", "QidPath", "Mode", "Atime", "Mtime", "Length", "Name", "Uid", "Gid", "Muid"}
	r := reachOf(t, "rules")
	if !r.reaches("Wstat", r.acts) {
		t.Error("Wstat: no functions in fields")
	}
	_, files := source(t, "rules")
	for _, f := range files {
		for _, d := range f.Decls {
			x, ok := d.(*ast.FuncDecl)
			if ok && r.from("Wstat")[nameOf(x)] && r.rows[nameOf(x)] == len(want) && slices.Equal(fieldsIn(x), want) {
				return
			}
		}
	}
	t.Error("Wstat: no table of all fields, in their order")
}

// fieldsIn are the sets of one field each that a function names, by their names in package api, in their order.
func fieldsIn(x *ast.FuncDecl) []string {
	var fields []string
	ast.Inspect(x, func(n ast.Node) bool {
		if sel, ok := n.(*ast.SelectorExpr); ok {
			if name, ok := strings.CutPrefix(sel.Sel.Name, "Field"); ok {
				fields = append(fields, name)
			}
		}
		return true
	})
	return fields
}

// The rights of the three classes are a list that is ranged over, whoever's rights are asked.
func TestWayOfClasses(t *testing.T) {
	r := reachOf(t, "rules")
	list := ""
	for name, rows := range r.rows {
		if rows == 3 {
			list = name
		}
	}
	_, files := source(t, "rules")
	ranged := map[string]bool{}
	for _, f := range files {
		for _, d := range f.Decls {
			if x, ok := d.(*ast.FuncDecl); ok && rangesOverCall(x, list) {
				ranged[nameOf(x)] = true
			}
		}
	}
	for _, face := range []string{"Rights", "Step", "Open", "Create", "Remove", "Closes", "Wstat"} {
		if !r.from(face)[list] || !r.reaches(face, ranged) {
			t.Errorf("%s: no range over a list of three classes", face)
		}
	}
}

// rangesOverCall tells whether what a call of that name gives is ranged over.
func rangesOverCall(n ast.Node, name string) bool {
	found := false
	ast.Inspect(n, func(n ast.Node) bool {
		if x, ok := n.(*ast.RangeStmt); ok {
			if c, ok := x.X.(*ast.CallExpr); ok {
				s, ok := c.Fun.(*ast.SelectorExpr)
				found = found || ok && s.Sel.Name == name
			}
		}
		return true
	})
	return found
}

// Fids lie in a map, by their numbers; they are sorted ahead of being told, and told by a function that Clear and Clone range over, too.
func TestWayOfFids(t *testing.T) {
	if fieldsOf(t, "fids", "Table")["map[uint32]api.Fid"] == nil {
		t.Error("a table has no map of fids by their numbers")
	}
	r := reachOf(t, "fids")
	for _, face := range []string{"All", "Clear", "Clone"} {
		if name := "Table." + face; !r.reachesSort(name) {
			t.Errorf("%s: nothing is sorted", face)
		} else if face != "All" && !rangesOverCall(function(t, "fids", name), "All") {
			t.Errorf("%s: no range over All", face)
		}
	}
}

// reachesSort tells whether a function comes to one by which the library sorts.
func (r reach) reachesSort(face string) bool {
	for name := range r.from(face) {
		if strings.HasPrefix(name, ".Sort") {
			return true
		}
	}
	return false
}

// Sessions stand in a map by their connections' numbers.
func TestWayOfSessions(t *testing.T) {
	if fieldsOf(t, "seq", "World")["map[int]session"] == nil {
		t.Error("a world has no map of sessions by their connections' numbers")
	}
}

// What is decided of each kind of request stands in a table of functions, named by method expressions, made within a function.
func TestWayOfRequests(t *testing.T) {
	r := reachOf(t, "seq")
	if !r.reaches("World.Decide", r.acts) {
		t.Error("Decide: no functions in fields")
	}
	_, files := source(t, "seq")
	for _, f := range files {
		for _, d := range f.Decls {
			x, ok := d.(*ast.FuncDecl)
			if ok && r.from("World.Decide")[nameOf(x)] && r.rows[nameOf(x)] == 13 && kindsByMethods(x) == 13 {
				return
			}
		}
	}
	t.Error("Decide: no table of all kinds of requests, with a method expression for each")
}

// kindsByMethods is how many rows of literals in a function begin with a kind of request, and then name a method expression.
func kindsByMethods(x *ast.FuncDecl) int {
	kinds := map[string]bool{}
	ast.Inspect(x, func(n ast.Node) bool {
		row, ok := n.(*ast.CompositeLit)
		if !ok || len(row.Elts) < 2 {
			return true
		}
		if kind, ok := row.Elts[0].(*ast.SelectorExpr); ok && strings.HasPrefix(kind.Sel.Name, "T") && isMethodExpression(row.Elts[1]) {
			kinds[kind.Sel.Name] = true
		}
		return true
	})
	return len(kinds)
}

// isMethodExpression tells whether something is a method that is named by a type of pointers.
func isMethodExpression(x ast.Expr) bool {
	sel, ok := x.(*ast.SelectorExpr)
	if !ok {
		return false
	}
	of, ok := sel.X.(*ast.ParenExpr)
	if !ok {
		return false
	}
	_, ok = of.X.(*ast.StarExpr)
	return ok
}

// Needs are found in a map whose keys are locks, and two of them are held against one another as structs.
func TestWayOfNeeds(t *testing.T) {
	if fieldsOf(t, "seq", "foot")["map[api.Lock]api.Need"] == nil {
		t.Error("a foot has no map of needs by their locks")
	}
	_, files := source(t, "seq")
	for _, f := range files {
		for _, d := range f.Decls {
			if x, ok := d.(*ast.FuncDecl); ok && comparesItsNeed(x) {
				return
			}
		}
	}
	t.Error("no need is held against another one")
}

// comparesItsNeed tells whether a function holds a need that it is given, whole, against something.
func comparesItsNeed(x *ast.FuncDecl) bool {
	given, found := map[string]bool{}, false
	for _, p := range x.Type.Params.List {
		for _, name := range p.Names {
			given[name.Name] = types.ExprString(p.Type) == "api.Need"
		}
	}
	ast.Inspect(x.Body, func(n ast.Node) bool {
		b, ok := n.(*ast.BinaryExpr)
		if !ok || b.Op != token.EQL && b.Op != token.NEQ {
			return true
		}
		for _, side := range []ast.Expr{b.X, b.Y} {
			id, ok := side.(*ast.Ident)
			found = found || ok && given[id.Name]
		}
		return true
	})
	return found
}

// Connections that have not ended stand in a map by their numbers; one that ends, by Close or by its bytes, is deleted from it.
func TestWayOfConnections(t *testing.T) {
	byNumber := false
	for _, f := range fieldsOf(t, "solo", "Server") {
		m, ok := f.(*ast.MapType)
		byNumber = byNumber || ok && types.ExprString(m.Key) == "int"
	}
	if !byNumber {
		t.Error("a server has no map by numbers")
	}
	deletes := having(t, "solo", func(x *ast.FuncDecl) bool { return calls(x, "delete") })
	r := reachOf(t, "solo")
	for _, face := range []string{"Server.Feed", "Server.Close"} {
		if !r.reaches(face, deletes) {
			t.Errorf("%s: nothing is deleted from a map", face)
		}
	}
}

// having are the functions of a package that are such.
func having(t *testing.T, layer string, such func(x *ast.FuncDecl) bool) map[string]bool {
	t.Helper()
	set := map[string]bool{}
	_, files := source(t, layer)
	for _, f := range files {
		for _, d := range f.Decls {
			if x, ok := d.(*ast.FuncDecl); ok {
				set[nameOf(x)] = such(x)
			}
		}
	}
	return set
}

// Locks stand in a map whose keys are the locks themselves; those that nobody holds are deleted from it, and queues are cut by slices of three indices.
func TestWayOfLocks(t *testing.T) {
	field := ""
	table, _ := typeOf(t, "locks", "Table").(*ast.StructType)
	for _, f := range table.Fields.List {
		if m, ok := f.Type.(*ast.MapType); ok && types.ExprString(m.Key) == "api.Lock" {
			field = f.Names[0].Name
		}
	}
	if field == "" {
		t.Error("a table has no map by locks")
	}
	deletes := having(t, "locks", func(x *ast.FuncDecl) bool { return deletesFrom(x, field) })
	cuts := having(t, "locks", cutsByThree)
	r := reachOf(t, "locks")
	for _, face := range []string{"Table.Free", "Table.Leave"} {
		if !r.reaches(face, deletes) {
			t.Errorf("%s: no lock is deleted from the map", face)
		}
		if !r.reaches(face, cuts) {
			t.Errorf("%s: no queue is cut by three indices", face)
		}
	}
}

// deletesFrom tells whether a function deletes from a map that is a field of that name.
func deletesFrom(x *ast.FuncDecl, field string) bool {
	found := false
	ast.Inspect(x, func(n ast.Node) bool {
		c, ok := n.(*ast.CallExpr)
		if !ok || len(c.Args) != 2 || !calls(c, "delete") {
			return true
		}
		sel, ok := c.Args[0].(*ast.SelectorExpr)
		found = found || ok && sel.Sel.Name == field
		return true
	})
	return found
}

func cutsByThree(x *ast.FuncDecl) bool {
	found := false
	ast.Inspect(x, func(n ast.Node) bool {
		s, ok := n.(*ast.SliceExpr)
		found = found || ok && s.Slice3
		return true
	})
	return found
}

// Requests lie in a map by their ids, tags in another one; a request's state is one of the constants by iota; the row is a list whose first one is taken.
func TestWayOfTags(t *testing.T) {
	of, byTag, row := "", false, ""
	table, _ := typeOf(t, "tags", "Table").(*ast.StructType)
	for _, f := range table.Fields.List {
		switch x := f.Type.(type) {
		case *ast.MapType:
			if types.ExprString(x.Key) == "int" {
				of = types.ExprString(x.Value)
			}
			byTag = byTag || types.ExprString(x.Key) == "uint16"
		case *ast.ArrayType:
			row = f.Names[0].Name
		}
	}
	if fieldsOf(t, "tags", of)["api.TagState"] == nil {
		t.Errorf("a table has no map by ids, or what lies in it (%q) has no state", of)
	}
	if !byTag {
		t.Error("a table has no map by tags")
	}
	takes := having(t, "tags", func(x *ast.FuncDecl) bool { return takesFirst(x, row) })
	if row == "" || !reachOf(t, "tags").reaches("Table.Next", takes) {
		t.Error("Next takes no list's first one")
	}
}

// takesFirst tells whether a function cuts the first one off a list that is a field of that name, and keeps the others.
func takesFirst(x *ast.FuncDecl, field string) bool {
	found := false
	ast.Inspect(x, func(n ast.Node) bool {
		s, ok := n.(*ast.SliceExpr)
		if !ok || s.Low == nil || types.ExprString(s.Low) != "1" {
			return true
		}
		sel, ok := s.X.(*ast.SelectorExpr)
		found = found || ok && sel.Sel.Name == field
		return true
	})
	return found
}

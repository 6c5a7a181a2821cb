package rules

import (
	"bytes"
	"go/ast"
	"go/format"
	"go/parser"
	"go/token"
	"go/types"
	"io/fs"
	"os"
	"path/filepath"
	"slices"
	"strconv"
	"strings"
	"testing"
)

// source is a file of the program, with what was read of it.
type source struct {
	path, folder string
	text         []byte
	fset         *token.FileSet
	file         *ast.File
}

// layers are the layers' packages, the lowest one first.
func layers() []string {
	return strings.Fields("word mem turn head tag plan stack epoch shade field root arena mark sweep collect op model hist lin iter client world heap tale")
}

// library is what may be imported beside the project's own packages.
func library() []string {
	return strings.Fields("bytes cmp container/heap errors iter maps math math/bits slices sort strconv strings sync sync/atomic unicode unicode/utf8")
}

// passed tells whether a folder holds nothing of the program: what is hidden, and where .ci/run lays the shared tests.
func passed(path string) bool {
	name := filepath.Base(path)
	return name == "sharedtests" || strings.HasPrefix(name, ".") && name != ".."
}

// sources is all files of the program that aren't tests.
func sources(t *testing.T) []source {
	t.Helper()
	var l []source
	err := filepath.WalkDir("..", func(path string, d fs.DirEntry, err error) error {
		if err != nil {
			return err
		}
		if d.IsDir() {
			if passed(path) {
				return filepath.SkipDir
			}
			return nil
		}
		if !strings.HasSuffix(path, ".go") || strings.HasSuffix(path, "_test.go") {
			return nil
		}
		s, err := read(path)
		l = append(l, s)
		return err
	})
	if err != nil {
		t.Fatal(err)
	}
	return l
}

func read(path string) (source, error) {
	s := source{path: path, folder: filepath.Base(filepath.Dir(path)), fset: token.NewFileSet()}
	var err error
	if s.text, err = os.ReadFile(path); err != nil {
		return s, err
	}
	s.file, err = parser.ParseFile(s.fset, path, s.text, parser.ParseComments)
	return s, err
}

// Without its sources a check of them would say nothing.
func TestAllLayersAreThere(t *testing.T) {
	have := map[string]int{}
	for _, s := range sources(t) {
		have[s.folder]++
		if s.file.Name.Name != s.folder {
			t.Errorf("%s: package %s", s.path, s.file.Name.Name)
		}
	}
	for _, name := range append(layers(), "api") {
		if have[name] == 0 {
			t.Errorf("package %s has no files", name)
		}
	}
}

// LANGUAGE 1 and 2: only what may be imported is; a layer calls those below it alone.
func TestImports(t *testing.T) {
	for _, s := range sources(t) {
		for _, i := range s.file.Imports {
			path, err := strconv.Unquote(i.Path.Value)
			if err != nil {
				t.Fatal(err)
			}
			own, isOwn := strings.CutPrefix(path, "withy/")
			if !isOwn && !slices.Contains(library(), path) {
				t.Errorf("%s imports %s", s.path, path)
			}
			if isOwn && !below(own, s.folder) {
				t.Errorf("%s imports %s, which isn't below it", s.path, path)
			}
		}
	}
}

// below tells whether a layer lies below another one. Packages that are no layers have no place among them.
func below(low, high string) bool {
	i, j := slices.Index(layers(), low), slices.Index(layers(), high)
	return i < 0 || j < 0 || i < j
}

// LANGUAGE 2: no line for the compiler, no build tag.
func TestNoLinesForTheCompiler(t *testing.T) {
	for _, s := range sources(t) {
		for _, g := range s.file.Comments {
			for _, c := range g.List {
				if strings.HasPrefix(c.Text, "//go:") || strings.HasPrefix(c.Text, "// +build") {
					t.Errorf("%s: %s", s.fset.Position(c.Pos()), c.Text)
				}
			}
		}
	}
}

// LANGUAGE 3a and 3b: a variable of a package has a value, and is no map, function or pointer; one that a call makes is an error.
func TestPackageVariables(t *testing.T) {
	for _, s := range sources(t) {
		for _, d := range s.file.Decls {
			g, ok := d.(*ast.GenDecl)
			if !ok || g.Tok != token.VAR {
				continue
			}
			for _, spec := range g.Specs {
				v := spec.(*ast.ValueSpec)
				if len(v.Values) != len(v.Names) || slices.ContainsFunc(v.Values, outlawed) {
					t.Errorf("%s: a variable that may not stand at package level", s.fset.Position(v.Pos()))
				}
			}
		}
	}
}

// outlawed tells whether a value may not stand at package level.
func outlawed(e ast.Expr) bool {
	bad := false
	ast.Inspect(e, func(n ast.Node) bool {
		switch x := n.(type) {
		case *ast.MapType, *ast.FuncLit:
			bad = true
		case *ast.UnaryExpr:
			bad = bad || x.Op == token.AND
		case *ast.CallExpr:
			bad = bad || types.ExprString(x.Fun) != "errors.New"
		}
		return true
	})
	return bad
}

// LANGUAGE 9: gofmt's layout, and functions of at most some 60 lines.
func TestLayout(t *testing.T) {
	for _, s := range sources(t) {
		laid, err := format.Source(s.text)
		if err != nil || !bytes.Equal(laid, s.text) {
			t.Errorf("%s isn't laid out as gofmt does (%v)", s.path, err)
		}
		for _, d := range s.file.Decls {
			f, ok := d.(*ast.FuncDecl)
			if !ok {
				continue
			}
			lines := s.fset.Position(f.End()).Line - s.fset.Position(f.Pos()).Line + 1
			if lines > 60 {
				t.Errorf("%s: %s has %d lines", s.path, f.Name.Name, lines)
			}
		}
	}
}

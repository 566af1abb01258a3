// Package rules tests what the document says of every package's code: which packages it stands on, and which rules of the language it keeps.
package rules

import (
	"go/ast"
	"go/parser"
	"go/token"
	"os"
	"path/filepath"
	"slices"
	"strconv"
	"strings"
	"testing"
)

const module = "keyward/"

// mayCall is the column 'calls' of the document's map.
func mayCall() map[string]string {
	return map[string]string{
		"api":     "",
		"field":   "api",
		"ladder":  "api field",
		"sha":     "api",
		"mac":     "api sha",
		"aes":     "api",
		"seal":    "api mac aes",
		"edwards": "api field",
		"scalar":  "api",
		"sign":    "api sha ladder edwards scalar",
		"wire":    "api",
		"lists":   "api sign wire",
		"store":   "api",
		"atomic":  "api wire lists",
		"steps":   "api wire store atomic",
		"agree":   "api sha mac ladder lists",
		"ratchet": "api mac ladder seal wire",
		"provide": "api mac ladder seal wire",
		"client":  "api mac ladder lists agree ratchet",
		"net":     "api",
		"world":   "api mac ladder store steps provide client net",
		"lin":     "api wire atomic",
		"lab":     "api world",
	}
}

const library = "bytes cmp container/heap errors iter maps math math/bits slices sort strconv strings sync sync/atomic unicode unicode/utf8"

// source is a file of the program, not of its tests.
type source struct {
	folder string
	name   string
	file   *ast.File
	set    *token.FileSet
}

func sources(t *testing.T) []source {
	t.Helper()
	names, err := filepath.Glob("../*/*.go")
	if err != nil {
		t.Fatal(err)
	}
	var out []source
	for _, name := range names {
		folder := filepath.Base(filepath.Dir(name))
		if folder == "sharedtests" || strings.HasSuffix(name, "_test.go") {
			continue
		}
		set := token.NewFileSet()
		file, err := parser.ParseFile(set, name, nil, parser.ParseComments)
		if err != nil {
			t.Fatal(err)
		}
		out = append(out, source{folder, name, file, set})
	}
	return out
}

func TestEveryLayerIsThere(t *testing.T) {
	there := map[string]bool{}
	for _, s := range sources(t) {
		there[s.folder] = s.file.Name.Name == s.folder
	}
	for folder := range mayCall() {
		if !there[folder] {
			t.Errorf("no package %s", folder)
		}
	}
}

func TestImports(t *testing.T) {
	for _, s := range sources(t) {
		calls, layer := mayCall()[s.folder]
		for _, spec := range s.file.Imports {
			path, err := strconv.Unquote(spec.Path.Value)
			if err != nil {
				t.Fatal(err)
			}
			own, ours := strings.CutPrefix(path, module)
			switch {
			case !ours && !slices.Contains(strings.Fields(library), path):
				t.Errorf("%s imports %s: not of the language", s.name, path)
			case ours && layer && !slices.Contains(strings.Fields(calls), own) && isLayer(own):
				t.Errorf("%s imports %s: not below it", s.name, path)
			}
		}
	}
}

func isLayer(folder string) bool {
	_, layer := mayCall()[folder]
	return layer
}

func TestNoLinesForTheCompiler(t *testing.T) {
	for _, s := range sources(t) {
		for _, group := range s.file.Comments {
			for _, c := range group.List {
				if strings.HasPrefix(c.Text, "//go:") || strings.HasPrefix(c.Text, "// +build") {
					t.Errorf("%s: %s", s.name, c.Text)
				}
			}
		}
	}
}

func TestFunctionsAreShort(t *testing.T) {
	for _, s := range sources(t) {
		for _, d := range s.file.Decls {
			f, ok := d.(*ast.FuncDecl)
			if !ok {
				continue
			}
			if n := s.set.Position(f.End()).Line - s.set.Position(f.Pos()).Line + 1; n > 60 {
				t.Errorf("%s: %s has %d lines", s.name, f.Name.Name, n)
			}
		}
	}
}

func TestOnlyGoFilesInPackages(t *testing.T) {
	for folder := range mayCall() {
		entries, err := os.ReadDir(filepath.Join("..", folder))
		if err != nil {
			t.Error(err)
		}
		for _, e := range entries {
			if !strings.HasSuffix(e.Name(), ".go") {
				t.Errorf("%s/%s: not a Go file", folder, e.Name())
			}
		}
	}
}

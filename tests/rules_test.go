package tests

import (
	"bytes"
	"go/ast"
	"go/format"
	"go/parser"
	"go/token"
	"os"
	"path/filepath"
	"strconv"
	"strings"
	"testing"
)

const mayImport = " bytes cmp container/heap errors iter maps math math/bits slices sort strconv strings sync sync/atomic unicode unicode/utf8 "
const longestFunction = 60

func filesOf(t *testing.T, folder string) []string {
	files, err := filepath.Glob(filepath.Join("..", folder, "*"))
	if err != nil || len(files) == 0 {
		t.Fatal("no files in", folder, err)
	}
	return files
}

func TestFilesAreGoInItsLayout(t *testing.T) {
	for _, name := range append(filesOf(t, "impl"), filesOf(t, "tests")...) {
		if !strings.HasSuffix(name, ".go") {
			t.Error(name, "is no Go file")
			continue
		}
		text, err := os.ReadFile(name)
		if err != nil {
			t.Fatal(err)
		}
		if laid, err := format.Source(text); err != nil || !bytes.Equal(laid, text) {
			t.Error(name, "is not laid out by gofmt", err)
		}
	}
}

func TestProgramKeepsToTheLanguage(t *testing.T) {
	set := token.NewFileSet()
	for _, name := range filesOf(t, "impl") {
		file, err := parser.ParseFile(set, name, nil, parser.ParseComments)
		if err != nil {
			t.Fatal(err)
		}
		for _, i := range file.Imports {
			if path, _ := strconv.Unquote(i.Path.Value); !strings.Contains(mayImport, " "+path+" ") {
				t.Error(name, "imports", path)
			}
		}
		for _, d := range file.Decls {
			if f, ok := d.(*ast.FuncDecl); ok && set.Position(f.End()).Line-set.Position(f.Pos()).Line >= longestFunction {
				t.Error(name, f.Name.Name, "is too long")
			}
		}
		for _, group := range file.Comments {
			for _, c := range group.List {
				if strings.HasPrefix(c.Text, "//go:") || strings.HasPrefix(c.Text, "// +build") {
					t.Error(name, "has the line", c.Text)
				}
			}
		}
	}
}

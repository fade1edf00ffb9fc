package probe_test

import (
	"go/parser"
	"go/token"
	"path/filepath"
	"slices"
	"strconv"
	"strings"
	"testing"
)

// packages are the folders of the program: package api, the layers, and those beside them.
const packages = "api tlv name sha mac aes seal ticket krb base kdc cache replay apx priv glob authz frame mux tree shell pty telopt rcp server client world link probe"

// library is what ../shared/LANGUAGE.md lists.
const library = "bytes cmp container/heap errors iter maps math math/bits slices sort strconv strings sync sync/atomic unicode unicode/utf8"

// TestImports: no file but test files imports what the program's language hasn't, package unsafe above all, or gives the compiler orders; the packages that stand beside the layers are no exception.
func TestImports(t *testing.T) {
	for name := range strings.FieldsSeq(packages) {
		files, err := filepath.Glob("../" + name + "/*.go")
		if err != nil || len(files) == 0 {
			t.Errorf("%s: %d files, %v", name, len(files), err)
		}
		for _, file := range files {
			if !strings.HasSuffix(file, "_test.go") {
				keepsRules(t, file)
			}
		}
	}
}

// keepsRules looks at the imports of a file, and at what it tells the compiler.
func keepsRules(t *testing.T, file string) {
	t.Helper()
	f, err := parser.ParseFile(token.NewFileSet(), file, nil, parser.ParseComments)
	if err != nil {
		t.Fatal(err)
	}
	for _, i := range f.Imports {
		path, err := strconv.Unquote(i.Path.Value)
		own := strings.HasPrefix(path, "gangway/") && slices.Contains(strings.Fields(packages), strings.TrimPrefix(path, "gangway/"))
		if err != nil || !own && !slices.Contains(strings.Fields(library), path) {
			t.Errorf("%s imports %s", file, i.Path.Value)
		}
	}
	for _, group := range f.Comments {
		for _, c := range group.List {
			if strings.HasPrefix(c.Text, "//go:") || strings.HasPrefix(c.Text, "// +build") {
				t.Errorf("%s: %s", file, c.Text)
			}
		}
	}
}

package tree_test

import (
	"regexp"
	"slices"
	"strings"
	"testing"

	"gangway/api"
	"gangway/probe"
	"gangway/tree"
)

// form is what a path looks like, but that no name is . or ..
var form = regexp.MustCompile(`^(/|(/[A-Za-z0-9._-]{1,12}){1,6})$`)

// isPath tells whether a text is a path.
func isPath(s string) bool {
	names := strings.Split(s, "/")
	return form.MatchString(s) && !slices.Contains(names, ".") && !slices.Contains(names, "..")
}

// paths gives paths, at the edges of what is one.
func paths() []string {
	return []string{
		"/", "/a", "/a/b/c/d/e/f", deepest, "/-", "/_", "/-/_", "/...", "/.a", "/a.", "/..a", "/a..", "/.../....", "/a.b/..c", "/AZaz09-._", "/0/9",
	}
}

// notPaths gives texts that are none.
func notPaths() []string {
	return []string{
		"", "a", "a/", "a/b", "//", "/a/", "//a", "/a//b", "/a/b/c/d/e/f/", "/a/b/c/d/e/f/g", deepest + "/", deepest + "/m", deepest + "m", "/" + twelve + "m", "/" + twelve + "m/a",
		"/.", "/..", "/./a", "/../a", "/a/.", "/a/..", "/a/./b", "/a/../b", "/a b", "/a\x00", "/a\n", "\n/a", " /a", "/a ", "/a*", "/a+", "/a@b", "/a:b", "/ä", "/a\\b", "/\xff", "/,",
		strings.Repeat("/", 1<<20), strings.Repeat("/a", 1<<20), "/" + strings.Repeat("a", 1<<20), "/a/b\x00/c",
	}
}

// TestPath: P19.1, names of 1 to 12 bytes, up to 6 of them, and the top.
func TestPath(t *testing.T) {
	for _, s := range paths() {
		if !tree.Path(s) || !isPath(s) {
			t.Errorf("%q is one", s)
		}
	}
	for _, s := range notPaths() {
		if tree.Path(s) || isPath(s) {
			t.Errorf("%.100q isn't one", s)
		}
	}
	for n := range 30 {
		if name := strings.Repeat("x", n); tree.Path("/"+name) != (n <= 12) || tree.Path("/a/"+name) != (1 <= n && n <= 12) || tree.Path("/"+name+"/a") != (1 <= n && n <= 12) {
			t.Errorf("a name of %d bytes", n)
		}
		if tree.Path(strings.Repeat("/a", n)) != (1 <= n && n <= 6) || tree.Path(strings.Repeat("/"+twelve, n)) != (1 <= n && n <= 6) || tree.Path(strings.Repeat("/", n)) != (n == 1) {
			t.Errorf("%d names", n)
		}
		if tree.Path("/"+strings.Repeat(".", n)) != (n != 1 && n != 2 && n <= 12) {
			t.Errorf("%d points", n)
		}
	}
}

// TestPathBytes: P19.1, each byte, alone and among others; two of them side by side.
func TestPathBytes(t *testing.T) {
	for a := range 256 {
		for b := range 256 {
			both := string([]byte{byte(a), byte(b)})
			for _, s := range []string{both[:1], both, "/" + both[:1], "/" + both, "/a" + both, "/a/" + both + "/b"} {
				if tree.Path(s) != isPath(s) {
					t.Errorf("%q: %v", s, tree.Path(s))
				}
			}
		}
	}
}

// TestShortPaths: P19.1, all short texts of bytes that mean something.
func TestShortPaths(t *testing.T) {
	met := 0
	for s := range probe.Texts("/.a-\x00", 7) {
		if tree.Path(s) != isPath(s) {
			t.Errorf("%q: %v", s, tree.Path(s))
		}
		if isPath(s) {
			met++
		}
	}
	if met < 1000 {
		t.Errorf("%d paths were met", met)
	}
}

// call is a call that comes to a path.
type call struct {
	name string
	do   func(x *tree.Tree, who, path string) api.Errno
}

// calls gives all calls that come to a path, right ones, and ones that would be wrong by themselves.
func calls() []call {
	return []call{
		{"Stat", func(x *tree.Tree, who, path string) api.Errno {
			n, e := x.Stat(who, path)
			return only(e, probe.SameNodes([]api.Node{n}, []api.Node{{}}))
		}},
		{"Read", func(x *tree.Tree, who, path string) api.Errno {
			data, e := x.Read(who, path)
			return only(e, len(data) == 0)
		}},
		{"List", func(x *tree.Tree, who, path string) api.Errno {
			names, e := x.List(who, path)
			return only(e, len(names) == 0)
		}},
		{"Mkdir", func(x *tree.Tree, who, path string) api.Errno { return x.Mkdir(who, path, 61) }},
		{"Mkdir of a wrong mode", func(x *tree.Tree, who, path string) api.Errno { return x.Mkdir(who, path, -1) }},
		{"Write", func(x *tree.Tree, who, path string) api.Errno { return x.Write(who, path, []byte("new"), 60) }},
		{"Write of a wrong mode", func(x *tree.Tree, who, path string) api.Errno { return x.Write(who, path, nil, 64) }},
		{"Write of too much", func(x *tree.Tree, who, path string) api.Errno {
			return x.Write(who, path, make([]byte, 1001), 60)
		}},
		{"Remove", func(x *tree.Tree, who, path string) api.Errno { return x.Remove(who, path) }},
		{"Chmod", func(x *tree.Tree, who, path string) api.Errno { return x.Chmod(who, path, 0) }},
		{"Chmod of a wrong mode", func(x *tree.Tree, who, path string) api.Errno { return x.Chmod(who, path, 1<<20) }},
		{"Give", func(x *tree.Tree, who, path string) api.Errno { return x.Give(who, path, "bob") }},
	}
}

// only gives an error, if beside it there is nothing; else a number that is none.
func only(e api.Errno, nothing bool) api.Errno {
	if e != api.OK && !nothing {
		return -1
	}
	return e
}

// TestComeName: P19.2, each call asks first whether the path is one.
func TestComeName(t *testing.T) {
	x := probe.Planted(dir("/a", "ann", 0), file("/f", "ann", 0, "f"))
	for _, c := range calls() {
		for _, path := range append(notPaths(), "/f/./a", "/a/../a", "/x//y", "/a/\x00", "/f/"+twelve+"m") {
			for _, who := range []string{"root", "ann", "bob"} {
				if e := c.do(x, who, path); e != api.ErrName {
					t.Errorf("%s of %q by %s: %v", c.name, path, who, e)
				}
			}
		}
	}
	has(t, x, dir("/a", "ann", 0), file("/f", "ann", 0, "f"))
}

// deep gives a tree of directories in each other, of ann; in each of them there is a file f, and no g.
func deep() (*tree.Tree, []api.Node) {
	var nodes []api.Node
	for path := "/d"; len(path) <= 10; path += "/d" {
		nodes = append(nodes, dir(path, "ann", 56), file(path+"/f", "ann", 63, "f"))
	}
	slices.SortFunc(nodes, func(a, b api.Node) int { return strings.Compare(a.Path, b.Path) })
	return probe.Planted(nodes...), nodes
}

// TestComeWay: P19.2, what isn't there, is a file, or may not be entered is told by each call, however deep it is, and ahead of all else.
func TestComeWay(t *testing.T) {
	for depth := range 5 {
		at := strings.Repeat("/d", depth)
		for _, rest := range []string{"/d", "/f", "/g", "/d/d", "/d/f", "/f/f", "/g/g", "/d/d/d/d"} {
			for _, c := range calls() {
				x, nodes := deep()
				comes(t, x, c, "ann", at+"/g"+rest, api.ErrNotFound)
				comes(t, x, c, "root", at+"/g"+rest, api.ErrNotFound)
				if depth > 0 {
					comes(t, x, c, "ann", at+"/f"+rest, api.ErrNotDir)
					comes(t, x, c, "root", at+"/f"+rest, api.ErrNotDir)
					comes(t, x, c, "bob", at+rest, api.ErrMode) // the uppermost one is enough
				}
				has(t, x, nodes...)
			}
		}
	}
}

// comes looks whether a call answers this error, if the path is one.
func comes(t *testing.T, x *tree.Tree, c call, who, path string, want api.Errno) {
	t.Helper()
	if !isPath(path) {
		want = api.ErrName
	}
	if e := c.do(x, who, path); e != want {
		t.Errorf("%s of %q by %s: %v, not %v", c.name, path, who, e, want)
	}
}

// TestComeTopDown: P19.2, the first one on the way that isn't right decides, also if further ones aren't right in other ways.
func TestComeTopDown(t *testing.T) {
	nodes := []api.Node{dir("/o", "ann", 61), dir("/o/c", "ann", 48), file("/o/c/f", "ann", 63, "f"), dir("/o/c/o", "ann", 61), file("/o/f", "ann", 63, "f")}
	for _, c := range calls() {
		x := probe.Planted(nodes...)
		for _, way := range []struct {
			path string
			want api.Errno
		}{
			{"/o/c/x", api.ErrMode}, {"/o/c/f", api.ErrMode}, {"/o/c/f/x", api.ErrMode}, {"/o/c/x/y", api.ErrMode}, {"/o/c/o/x", api.ErrMode},
			{"/o/f/c", api.ErrNotDir}, {"/o/f/c/f", api.ErrNotDir}, {"/o/x/c", api.ErrNotFound}, {"/o/x/f/c", api.ErrNotFound}, {"/x/o/c", api.ErrNotFound},
		} {
			for _, who := range []string{"ann", "bob", ""} { // 48 lets nobody enter, its owner neither
				comes(t, x, c, who, way.path, way.want)
			}
		}
		comes(t, x, c, "root", "/o/c/f/x", api.ErrNotDir)
		comes(t, x, c, "root", "/o/c/x/y", api.ErrNotFound)
		has(t, x, nodes...)
	}
}

// TestComeTop: P19.2, the top is on the way to all but itself.
func TestComeTop(t *testing.T) {
	for _, c := range calls() {
		x := probe.Planted(dir("/a", "ann", 63), file("/f", "ann", 63, "f"))
		says(t, "Chmod", x.Chmod("root", "/", 62), api.OK)
		for _, path := range []string{"/a", "/f", "/x", "/a/b", "/f/x", "/x/y"} {
			comes(t, x, c, "ann", path, api.ErrMode)
		}
		holds(t, x, dir("/", "root", 62), dir("/a", "ann", 63), file("/f", "ann", 63, "f"))
	}
	x := tree.New()
	says(t, "Chmod", x.Chmod("root", "/", 6), api.OK)
	stats(t, x, "ann", dir("/", "root", 6))
	lists(t, x, "ann", "/")
	says(t, "Write", x.Write("ann", "/", nil, 0), api.ErrIsDir)
	says(t, "Mkdir", x.Mkdir("ann", "/", 0), api.ErrExists)
}

// TestComeNotItself: P19.2, the path itself needn't be entered, nor be a directory, nor be there.
func TestComeNotItself(t *testing.T) {
	x := probe.Planted(dir("/a", "ann", 4), dir("/a/b", "ann", 62), file("/f", "ann", 6, "f"))
	stats(t, x, "bob", dir("/a", "ann", 4))
	lists(t, x, "bob", "/a", "b")
	statsNot(t, x, "bob", "/a/b", api.ErrMode)
	reads(t, x, "bob", "/f", "f", api.OK)
	says(t, "Write", x.Write("bob", "/f", nil, 0), api.OK)
	says(t, "Chmod", x.Chmod("ann", "/a", 0), api.OK)
	stats(t, x, "ann", dir("/a", "ann", 0))
	says(t, "Mkdir", x.Mkdir("root", "/a/c", 0), api.OK)
	says(t, "Remove", x.Remove("root", "/a/b"), api.OK)
	says(t, "Remove", x.Remove("root", "/a/c"), api.OK)
	has(t, x, dir("/a", "ann", 0), file("/f", "ann", 6, ""))
}

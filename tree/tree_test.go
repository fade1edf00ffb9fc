package tree_test

import (
	"math"
	"reflect"
	"slices"
	"strconv"
	"strings"
	"testing"

	"gangway/api"
	"gangway/probe"
	"gangway/tree"
)

const (
	twelve  = "abcdefghijkl"
	deepest = "/" + twelve + "/" + twelve + "/" + twelve + "/" + twelve + "/" + twelve + "/" + twelve
)

// notModes are numbers that no node has as its mode.
var notModes = []int{-1, -2, -61, -64, 64, 65, 100, 127, 128, 256, 511, 1<<16 + 61, 1 << 32, 1<<32 + 61, math.MaxInt, math.MinInt, math.MinInt + 61}

// Short names, as nearly all tests have nodes.
var dir, file = probe.Dir, probe.File

// has looks whether Nodes tells just these, and the top ahead of them as it was at first.
func has(t *testing.T, x *tree.Tree, want ...api.Node) {
	t.Helper()
	holds(t, x, append([]api.Node{dir("/", "root", 61)}, want...)...)
}

// holds looks whether Nodes tells just these.
func holds(t *testing.T, x *tree.Tree, want ...api.Node) {
	t.Helper()
	if got := x.Nodes(); !probe.SameNodes(got, want) {
		t.Errorf("%+v, not %+v", got, want)
	}
}

// says looks whether a call answered this.
func says(t *testing.T, what string, got, want api.Errno) {
	t.Helper()
	if got != want {
		t.Errorf("%s: %v, not %v", what, got, want)
	}
}

// stats looks whether Stat gives just this node.
func stats(t *testing.T, x *tree.Tree, who string, want api.Node) {
	t.Helper()
	if got, e := x.Stat(who, want.Path); e != api.OK || !probe.SameNodes([]api.Node{got}, []api.Node{want}) {
		t.Errorf("%q: %+v, %v, not %+v", who, got, e, want)
	}
}

// statsNot looks whether Stat answers this error, and no node.
func statsNot(t *testing.T, x *tree.Tree, who, path string, want api.Errno) {
	t.Helper()
	if got, e := x.Stat(who, path); e != want || !reflect.DeepEqual(got, api.Node{}) {
		t.Errorf("%q, %.100q: %+v, %v, not %v", who, path, got, e, want)
	}
}

// reads looks whether Read gives just these data, or this error and none.
func reads(t *testing.T, x *tree.Tree, who, path, data string, want api.Errno) {
	t.Helper()
	if got, e := x.Read(who, path); e != want || string(got) != data {
		t.Errorf("%q, %.100q: %.80q, %v, not %.80q, %v", who, path, got, e, data, want)
	}
}

// lists looks whether List gives just these names.
func lists(t *testing.T, x *tree.Tree, who, path string, want ...string) {
	t.Helper()
	if got, e := x.List(who, path); e != api.OK || !slices.Equal(got, want) {
		t.Errorf("%q, %q: %q, %v, not %q", who, path, got, e, want)
	}
}

// listsNot looks whether List answers this error, and no names.
func listsNot(t *testing.T, x *tree.Tree, who, path string, want api.Errno) {
	t.Helper()
	if got, e := x.List(who, path); e != want || len(got) != 0 {
		t.Errorf("%q, %.100q: %q, %v, not %v", who, path, got, e, want)
	}
}

// TestNew: P19.1, at first there is the top alone, which all may read and enter, and root alone may write.
func TestNew(t *testing.T) {
	x := tree.New()
	has(t, x)
	for _, who := range []string{"root", "ann", ""} {
		stats(t, x, who, dir("/", "root", 61))
		lists(t, x, who, "/")
		statsNot(t, x, who, "/a", api.ErrNotFound)
		reads(t, x, who, "/", "", api.ErrIsDir)
	}
	says(t, "Mkdir by ann", x.Mkdir("ann", "/a", 61), api.ErrMode)
	says(t, "Write by nobody", x.Write("", "/a", nil, 61), api.ErrMode)
	has(t, x)
}

// TestExample: the chapter's example.
func TestExample(t *testing.T) {
	x := tree.New()
	says(t, "Mkdir", x.Mkdir("root", "/users", 61), api.OK)
	says(t, "Mkdir by ann", x.Mkdir("ann", "/users/x", 61), api.ErrMode)
	has(t, x, dir("/users", "root", 61))
	says(t, "Give", x.Give("root", "/users", "ann"), api.OK)
	says(t, "Mkdir by ann", x.Mkdir("ann", "/users/x", 61), api.OK)
	has(t, x, dir("/users", "ann", 61), dir("/users/x", "ann", 61))
}

// TestNodes: P19.1, the paths rise byte by byte, whatever was made first; bytes below that of / stand ahead of what is in a directory.
func TestNodes(t *testing.T) {
	x := probe.Planted(
		dir("/b", "", 7), dir("/a", "ann", 0), file("/a/b", "bob", 1, "x"), file("/a0", "root", 63, ""), dir("/a-b", "ann", 2), file("/a.b", "ann", 3, "yz"),
		dir("/a/c", "bob", 61), file("/Z", "ann", 4, "\x00\xff"), file("/_", "ann", 5, ""), file("/a/c/d", "ann", 6, "."), file("/0", "0", 8, "0"), file("/a-b/c", "", 9, ""))
	has(t, x,
		file("/0", "0", 8, "0"), file("/Z", "ann", 4, "\x00\xff"), file("/_", "ann", 5, ""), dir("/a", "ann", 0), dir("/a-b", "ann", 2), file("/a-b/c", "", 9, ""),
		file("/a.b", "ann", 3, "yz"), file("/a/b", "bob", 1, "x"), dir("/a/c", "bob", 61), file("/a/c/d", "ann", 6, "."), file("/a0", "root", 63, ""), dir("/b", "", 7))
}

// TestStat: P19.3, any node to which who may come, whatever its mode is; a directory has no data.
func TestStat(t *testing.T) {
	nodes := []api.Node{
		dir("/a", "ann", 0), dir("/b", "ann", 61), file("/b/f", "bob", 0, "secret"), file("/b/g", "ann", 63, ""), dir("/b/h", "bob", 0), file("/c", "bob", 36, "c"),
	}
	x := probe.Planted(nodes...)
	for _, who := range []string{"root", "ann", "bob", "", "carl"} {
		for _, n := range nodes {
			stats(t, x, who, n)
		}
		stats(t, x, who, dir("/", "root", 61))
		for _, path := range []string{"/d", "/b/x", "/b/ff", "/B", "/b/F", "/bb"} {
			statsNot(t, x, who, path, api.ErrNotFound)
		}
	}
	has(t, x, nodes...)
}

// TestRead: P19.3, all of a file's data; ErrNotFound, ErrIsDir, whatever the mode is, and then ErrMode.
func TestRead(t *testing.T) {
	all := string(probe.Bytes(19, 1000))
	x := probe.Planted(dir("/d", "ann", 0), dir("/e", "ann", 63), file("/f", "ann", 32, "ab"), file("/g", "ann", 4, all), file("/h", "ann", 31, "h"), file("/i", "root", 0, "i"))
	reads(t, x, "ann", "/f", "ab", api.OK)
	reads(t, x, "root", "/f", "ab", api.OK)
	reads(t, x, "bob", "/f", "", api.ErrMode)
	reads(t, x, "bob", "/g", all, api.OK)
	reads(t, x, "ann", "/g", "", api.ErrMode) // the owner isn't among the others
	reads(t, x, "ann", "/h", "", api.ErrMode)
	reads(t, x, "root", "/i", "i", api.OK)
	for _, who := range []string{"root", "ann", "bob", ""} {
		reads(t, x, who, "/d", "", api.ErrIsDir)
		reads(t, x, who, "/e", "", api.ErrIsDir)
		reads(t, x, who, "/", "", api.ErrIsDir)
		reads(t, x, who, "/x", "", api.ErrNotFound)
	}
}

// TestList: P19.3, the names of just the nodes whose parent it is, rising; ErrNotFound, ErrNotDir, whatever the mode is, and then ErrMode.
func TestList(t *testing.T) {
	x := probe.Planted(
		dir("/b", "ann", 61), dir("/a", "ann", 61), file("/a/z", "ann", 0, ""), dir("/a/b", "ann", 56), file("/a/b/c", "ann", 0, ""), dir("/a-b", "ann", 0), file("/a-b/x", "ann", 63, "x"),
		dir("/a/b/d", "ann", 61), file("/a/b-", "ann", 1, ""), file("/a/B", "ann", 1, ""), file("/a/b0", "ann", 1, ""), file("/f", "ann", 63, "f"), file("/g", "ann", 0, "g"), dir("/r", "root", 0))
	for _, who := range []string{"root", "ann", "bob", ""} {
		lists(t, x, who, "/", "a", "a-b", "b", "f", "g", "r")
		lists(t, x, who, "/a", "B", "b", "b-", "b0", "z")
		lists(t, x, who, "/b")
		listsNot(t, x, who, "/x", api.ErrNotFound)
		listsNot(t, x, who, "/a/x", api.ErrNotFound)
		listsNot(t, x, who, "/f", api.ErrNotDir)
		listsNot(t, x, who, "/g", api.ErrNotDir)
		if who == "root" {
			lists(t, x, who, "/a-b", "x")
			lists(t, x, who, "/r")
		} else {
			listsNot(t, x, who, "/a-b", api.ErrMode)
			listsNot(t, x, who, "/r", api.ErrMode)
		}
	}
	lists(t, x, "ann", "/a/b", "c", "d")
	listsNot(t, x, "bob", "/a/b", api.ErrMode)
	lists(t, x, "ann", "/a/b/d")
	listsNot(t, x, "bob", "/a/b/d", api.ErrMode)
	lists(t, x, "root", "/a/b/d")
}

// TestMkdir: P19.4, a directory of who, with each mode, of each length of path.
func TestMkdir(t *testing.T) {
	for mode := range 64 {
		x := probe.Planted(dir("/p", "ann", 15))
		says(t, "Mkdir by root", x.Mkdir("root", "/d", mode), api.OK)
		says(t, "Mkdir by ann", x.Mkdir("ann", "/p/d", mode), api.ErrMode)
		says(t, "Mkdir by bob", x.Mkdir("bob", "/p/d", mode), api.OK)
		says(t, "Mkdir by nobody", x.Mkdir("", "/p/e", mode), api.OK)
		want := []api.Node{dir("/d", "root", mode), dir("/p", "ann", 15), dir("/p/d", "bob", mode), dir("/p/e", "", mode)}
		stats(t, x, "root", want[2])
		lists(t, x, "root", "/p/d")
		has(t, x, want...)
	}
	x, want := tree.New(), []api.Node(nil)
	for n := 13; n <= len(deepest); n += 13 {
		says(t, deepest[:n], x.Mkdir("root", deepest[:n], n%64), api.OK)
		want = append(want, dir(deepest[:n], "root", n%64))
	}
	says(t, "too deep", x.Mkdir("root", deepest+"/a", 61), api.ErrName)
	has(t, x, want...)
}

// TestMkdirWrong: P19.4, ErrArg, ErrExists, ErrMode and ErrFull, in this order; with them nothing has changed.
func TestMkdirWrong(t *testing.T) {
	x, nodes := full(t)
	for _, mode := range notModes {
		for _, path := range []string{"/", "/d", "/f", "/new", "/d/new"} {
			says(t, "mode "+strconv.Itoa(mode)+" at "+path, x.Mkdir("ann", path, mode), api.ErrArg)
			says(t, "mode "+strconv.Itoa(mode)+" at "+path+" by root", x.Mkdir("root", path, mode), api.ErrArg)
		}
	}
	for _, who := range []string{"root", "ann", "bob"} {
		for _, path := range []string{"/", "/d", "/f", "/d/g"} {
			says(t, who+" at "+path, x.Mkdir(who, path, 61), api.ErrExists)
		}
	}
	says(t, "in the top", x.Mkdir("ann", "/new", 61), api.ErrMode)
	says(t, "in ann's", x.Mkdir("bob", "/d/new", 61), api.ErrMode)
	says(t, "a 65th", x.Mkdir("ann", "/d/new", 61), api.ErrFull)
	says(t, "a 65th by root", x.Mkdir("root", "/new", 61), api.ErrFull)
	has(t, x, nodes...)
}

// full gives a tree of 64 nodes, and those but the top: ann's /d, with a file in it, bob's /f and /r, and many of root's.
func full(t *testing.T) (*tree.Tree, []api.Node) {
	t.Helper()
	nodes := []api.Node{dir("/d", "ann", 61), file("/d/g", "ann", 60, "g"), file("/f", "bob", 60, "f"), file("/r", "bob", 36, "r")}
	for n := range 59 {
		nodes = append(nodes, dir("/x"+strconv.Itoa(10+n), "root", 61))
	}
	x := probe.Planted(nodes...)
	has(t, x, nodes...)
	return x, nodes
}

// TestWriteNew: P19.4, a file of who, with each mode, and of any bytes, up to 1000.
func TestWriteNew(t *testing.T) {
	for mode := range 64 {
		x := probe.Planted(dir("/p", "ann", 58))
		data := string(probe.Bytes(uint64(mode), mode*15))
		says(t, "Write by root", x.Write("root", "/f", []byte(data), mode), api.OK)
		says(t, "Write by bob", x.Write("bob", "/p/f", []byte(data), mode), api.ErrMode)
		says(t, "Write by ann", x.Write("ann", "/p/f", []byte(data), mode), api.OK)
		has(t, x, file("/f", "root", mode, data), dir("/p", "ann", 58), file("/p/f", "ann", mode, data))
		stats(t, x, "ann", file("/p/f", "ann", mode, data))
	}
	for _, n := range []int{0, 1, 999, 1000} {
		x := tree.New()
		data := string(probe.Bytes(7, n))
		says(t, "Write", x.Write("root", deepest[:13], []byte(data), 61), api.OK)
		reads(t, x, "root", deepest[:13], data, api.OK)
	}
}

// TestWriteOver: P19.4, a file that is there has these data alone; its owner and its mode stay.
func TestWriteOver(t *testing.T) {
	x := probe.Planted(file("/f", "ann", 18, "first"), dir("/p", "bob", 1), file("/p/g", "bob", 2, ""))
	for _, who := range []string{"root", "ann", "bob", ""} {
		for _, data := range []string{"", "x", "longer than that", strings.Repeat("1000 bytes", 100), "short"} {
			says(t, "Write of /f by "+who, x.Write(who, "/f", []byte(data), 61), api.OK)
			has(t, x, file("/f", "ann", 18, data), dir("/p", "bob", 1), file("/p/g", "bob", 2, ""))
			reads(t, x, "root", "/f", data, api.OK)
		}
	}
	says(t, "by the owner of its parent", x.Write("bob", "/p/g", []byte("g"), 0), api.ErrMode) // who may not enter it, nor write this
	says(t, "by another one", x.Write("ann", "/p/g", []byte("g"), 0), api.OK)                  // who may not write the parent
	has(t, x, file("/f", "ann", 18, "short"), dir("/p", "bob", 1), file("/p/g", "bob", 2, "g"))
}

// TestWriteWrong: P19.4, ErrArg, ErrLong, then of a node ErrIsDir and ErrMode, else ErrMode and ErrFull; with them nothing has changed.
func TestWriteWrong(t *testing.T) {
	x, nodes := full(t)
	long := make([]byte, 1001)
	paths := []string{"/", "/d", "/f", "/d/g", "/new", "/d/new"}
	for _, who := range []string{"root", "ann", "bob"} {
		for _, path := range paths {
			for _, mode := range notModes {
				says(t, "mode "+strconv.Itoa(mode)+" by "+who+" at "+path, x.Write(who, path, long, mode), api.ErrArg)
				says(t, "mode "+strconv.Itoa(mode)+" by "+who+" at "+path, x.Write(who, path, nil, mode), api.ErrArg)
			}
			says(t, "1001 bytes by "+who+" at "+path, x.Write(who, path, long, 61), api.ErrLong)
			says(t, "more by "+who+" at "+path, x.Write(who, path, make([]byte, 1<<20), 0), api.ErrLong)
		}
		says(t, who+" at the top", x.Write(who, "/", nil, 61), api.ErrIsDir)
		says(t, who+" at a directory", x.Write(who, "/d", []byte("x"), 61), api.ErrIsDir)
		says(t, who+" at another one", x.Write(who, "/x10", long[:1000], 61), api.ErrIsDir)
	}
	says(t, "ann at bob's", x.Write("ann", "/f", []byte("x"), 63), api.ErrMode)
	says(t, "bob at his own", x.Write("bob", "/r", []byte("x"), 63), api.ErrMode)
	says(t, "in the top", x.Write("ann", "/new", nil, 61), api.ErrMode)
	says(t, "in ann's", x.Write("bob", "/d/new", nil, 61), api.ErrMode)
	says(t, "a 65th", x.Write("ann", "/d/new", nil, 61), api.ErrFull)
	says(t, "a 65th by root", x.Write("root", "/new", nil, 61), api.ErrFull)
	has(t, x, nodes...)
	says(t, "one that is there", x.Write("ann", "/d/g", []byte("more"), 0), api.OK) // the number of nodes plays no part
	nodes[1].Data = []byte("more")
	has(t, x, nodes...)
}

// TestRoomAgain: P19.4 and P19.5, where one has gone there is room for one; the top counts among the 64.
func TestRoomAgain(t *testing.T) {
	for turn := range 4 {
		x, nodes := full(t)
		gone := nodes[len(nodes)-1-turn]
		says(t, "Remove", x.Remove("root", gone.Path), api.OK)
		if n := len(x.Nodes()); n != 63 {
			t.Errorf("%d nodes", n)
		}
		if turn%2 == 0 {
			says(t, "Mkdir", x.Mkdir("ann", "/d/a", 61), api.OK)
		} else {
			says(t, "Write", x.Write("ann", "/d/a", nil, 61), api.OK)
		}
		says(t, "Mkdir beyond", x.Mkdir("root", "/y", 61), api.ErrFull)
		says(t, "Write beyond", x.Write("root", "/y", nil, 61), api.ErrFull)
		if n := len(x.Nodes()); n != 64 {
			t.Errorf("%d nodes", n)
		}
	}
}

// TestRemove: P19.5, files and empty directories go, whosever they are, if who may write the parent; only they.
func TestRemove(t *testing.T) {
	nodes := []api.Node{
		file("/a", "ann", 63, "a"), dir("/b", "ann", 61), file("/b-", "ann", 0, ""), dir("/b-c", "ann", 61), file("/b-c/d", "ann", 0, ""), dir("/c", "bob", 57),
		file("/c/d", "ann", 63, "x"), dir("/c/e", "root", 0), dir("/d", "ann", 15), file("/d/f", "ann", 63, "f"), dir("/d/g", "ann", 63),
	}
	for _, c := range []struct {
		who, path string
		want      api.Errno
	}{
		{"root", "/a", api.OK}, {"root", "/b", api.OK}, {"root", "/b-", api.OK}, {"root", "/c/d", api.OK}, {"bob", "/c/d", api.OK}, {"bob", "/c/e", api.OK},
		{"bob", "/d/f", api.OK}, {"", "/d/g", api.OK}, {"root", "/d/g", api.OK},
		{"ann", "/a", api.ErrMode}, {"ann", "/b", api.ErrMode}, {"ann", "/c/d", api.ErrMode}, {"ann", "/d/f", api.ErrMode}, {"ann", "/d/g", api.ErrMode},
		{"root", "/b-c", api.ErrNotEmpty}, {"root", "/c", api.ErrNotEmpty}, {"root", "/d", api.ErrNotEmpty}, {"ann", "/b-c", api.ErrMode}, {"bob", "/c", api.ErrMode},
		{"root", "/", api.ErrArg}, {"ann", "/", api.ErrArg}, {"", "/", api.ErrArg}, {"root", "/x", api.ErrNotFound}, {"ann", "/x", api.ErrNotFound}, {"ann", "/c/x", api.ErrNotFound},
	} {
		x := probe.Planted(nodes...)
		says(t, c.who+" at "+c.path, x.Remove(c.who, c.path), c.want)
		if c.want != api.OK {
			has(t, x, nodes...)
			continue
		}
		has(t, x, slices.DeleteFunc(slices.Clone(nodes), func(n api.Node) bool { return n.Path == c.path })...)
		statsNot(t, x, "root", c.path, api.ErrNotFound)
		says(t, "once more", x.Remove("root", c.path), api.ErrNotFound)
	}
}

// TestRemoveAll: P19.5, a directory goes as soon as all that was in it is gone; what is made there anew is new.
func TestRemoveAll(t *testing.T) {
	x := probe.Planted(dir("/a", "ann", 61), dir("/a/b", "ann", 5), file("/a/b/c", "ann", 5, "old"), file("/a/d", "ann", 60, ""))
	for _, path := range []string{"/a/b/c", "/a/b", "/a/d", "/a"} {
		for at := path[:strings.LastIndex(path, "/")]; at != ""; at = at[:strings.LastIndex(at, "/")] {
			says(t, at, x.Remove("root", at), api.ErrNotEmpty)
		}
		says(t, path, x.Remove("root", path), api.OK)
	}
	has(t, x)
	says(t, "a file where a directory was", x.Write("root", "/a", nil, 7), api.OK)
	statsNot(t, x, "root", "/a/d", api.ErrNotDir)
	has(t, x, file("/a", "root", 7, ""))
	says(t, "the top", x.Remove("root", "/"), api.ErrArg)
}

// TestChmod: P19.5, each mode, by root and the owner alone, whatever the mode was; ErrArg, ErrNotFound and ErrMode, in this order.
func TestChmod(t *testing.T) {
	f, d, r := file("/f", "ann", 0, "f"), dir("/d", "ann", 0), file("/r", "root", 63, "r")
	x := probe.Planted(f, d, r)
	for mode := range 64 {
		for i, who := range []string{"root", "ann"} {
			f.Mode, d.Mode = (mode+i*9)%64, (mode*7+i*5)%64
			says(t, "/f by "+who, x.Chmod(who, "/f", f.Mode), api.OK)
			says(t, "/d by "+who, x.Chmod(who, "/d", d.Mode), api.OK)
			has(t, x, d, f, r)
		}
		for _, who := range []string{"bob", "", "Root", "ann "} {
			says(t, "/f by "+who, x.Chmod(who, "/f", mode), api.ErrMode)
			says(t, "/d by "+who, x.Chmod(who, "/d", mode), api.ErrMode)
			says(t, "/ by "+who, x.Chmod(who, "/", mode), api.ErrMode)
			says(t, "/x by "+who, x.Chmod(who, "/x", mode), api.ErrNotFound)
		}
		says(t, "/r by ann", x.Chmod("ann", "/r", mode), api.ErrMode)
		has(t, x, d, f, r)
	}
	for _, mode := range notModes {
		for _, who := range []string{"root", "ann", "bob"} {
			for _, path := range []string{"/", "/d", "/f", "/x"} {
				says(t, path+" by "+who+", "+strconv.Itoa(mode), x.Chmod(who, path, mode), api.ErrArg)
			}
		}
	}
	says(t, "the top", x.Chmod("root", "/", 7), api.OK)
	holds(t, x, dir("/", "root", 7), d, f, r)
	says(t, "the top, once it is ann's", x.Give("root", "/", "ann"), api.OK)
	says(t, "by ann", x.Chmod("ann", "/", 56), api.OK)
	holds(t, x, dir("/", "ann", 56), d, f, r)
}

// TestGive: P19.5, by root alone, to any text; the mode stays, and the new owner is the owner.
func TestGive(t *testing.T) {
	x := probe.Planted(dir("/d", "ann", 56), file("/f", "ann", 32, "f"))
	for _, owner := range []string{"", "bob", "root", "\x00", strings.Repeat("long", 1000), "/", "ann@LAND", "bob"} {
		says(t, "Give of /f", x.Give("root", "/f", owner), api.OK)
		says(t, "Give of /d", x.Give("root", "/d", owner), api.OK)
		has(t, x, dir("/d", owner, 56), file("/f", owner, 32, "f"))
		reads(t, x, owner, "/f", "f", api.OK)
		reads(t, x, "carl", "/f", "", api.ErrMode)
		lists(t, x, owner, "/d")
		listsNot(t, x, "ann", "/d", api.ErrMode)
	}
	for _, who := range []string{"bob", "ann", "", "Root", "root\x00", "roo"} {
		says(t, who, x.Give(who, "/f", who), api.ErrMode)
		says(t, who+" at the top", x.Give(who, "/", who), api.ErrMode)
		says(t, who+" at none", x.Give(who, "/x", who), api.ErrNotFound)
		says(t, who+" at none", x.Give("root", "/x", who), api.ErrNotFound)
	}
	has(t, x, dir("/d", "bob", 56), file("/f", "bob", 32, "f"))
	says(t, "the top", x.Give("root", "/", "ann"), api.OK)
	says(t, "Mkdir by ann", x.Mkdir("ann", "/a", 61), api.OK)
	says(t, "Mkdir by bob", x.Mkdir("bob", "/b", 61), api.ErrMode)
	holds(t, x, dir("/", "ann", 61), dir("/a", "ann", 61), dir("/d", "bob", 56), file("/f", "bob", 32, "f"))
}

package rcp_test

import (
	"fmt"
	"strings"
	"testing"

	"gangway/api"
	"gangway/probe"
	"gangway/rcp"
	"gangway/tree"
)

// gives asserts what Source answers.
func gives(t *testing.T, x *tree.Tree, who, path string, all bool, want string, wantE api.Errno) {
	t.Helper()
	if got, e := rcp.Source(x, who, path, all); string(got) != want || e != wantE {
		t.Errorf("%q, %q, %v: %.200q, %v, not %.200q, %v", who, path, all, got, e, want, wantE)
	}
}

// TestSourceExample: P23.1, the chapter's example.
func TestSourceExample(t *testing.T) {
	for _, all := range []bool{true, false} {
		gives(t, probe.Planted(probe.File("/f", "root", 60, "ab")), "root", "/f", all, "C74 2 f\nab\x00", 0)
	}
}

// TestSourceFile: P23.1, a file of each mode, of many sizes, of each byte, and of the longest name, at any depth.
func TestSourceFile(t *testing.T) {
	for mode := range 64 {
		x := probe.Planted(probe.File("/f", "ann", mode, "x"), probe.Dir("/d", "bob", mode))
		gives(t, x, "root", "/f", false, fmt.Sprintf("C%o%o 1 f\nx\x00", mode/8, mode%8), 0)
		gives(t, x, "root", "/d", true, fmt.Sprintf("D%02o 0 d\nE\n", mode), 0)
	}
	for _, n := range []int{0, 1, 9, 10, 99, 100, 999, 1000} {
		data := string(probe.Bytes(uint64(n), n))
		x := probe.Planted(probe.Dir("/d", "ann", 0), probe.File("/d/longest-name", "ann", 7, data))
		gives(t, x, "root", "/d/longest-name", false, fmt.Sprintf("C07 %d longest-name\n%s\x00", n, data), 0)
	}
	all := ""
	for c := range 256 {
		all += string([]byte{byte(c)})
	}
	gives(t, probe.Planted(probe.File("/.-_Aa0Zz9", "root", 8, all)), "root", "/.-_Aa0Zz9", true, "C10 256 .-_Aa0Zz9\n"+all+"\x00", 0)
	deep := probe.Planted(probe.Dir("/a", "r", 1), probe.Dir("/a/b", "r", 2), probe.Dir("/a/b/c", "r", 3), probe.Dir("/a/b/c/d", "r", 4), probe.Dir("/a/b/c/d/e", "r", 5), probe.File("/a/b/c/d/e/f", "r", 6, "F"))
	gives(t, deep, "root", "/a/b/c/d/e/f", false, "C06 1 f\nF\x00", 0)
	gives(t, deep, "root", "/a/b/c/d", true, "D04 0 d\nD05 0 e\nC06 1 f\nF\x00E\nE\n", 0)
	gives(t, deep, "root", "/a", true, "D01 0 a\nD02 0 b\nD03 0 c\nD04 0 d\nD05 0 e\nC06 1 f\nF\x00E\nE\nE\nE\nE\n", 0)
}

// TestSourceDir: P23.1, a directory has the streams of what is in it, by rising names (a name that another one begins with comes first, whatever is below it), and nothing of what is beside it.
func TestSourceDir(t *testing.T) {
	x := probe.Planted(
		probe.Dir("/d", "ann", 61), probe.File("/d/b", "ann", 60, "B"), probe.Dir("/d/a", "ann", 56), probe.File("/d/a-", "ann", 48, "-"), probe.File("/d/a/z", "ann", 0, ""),
		probe.File("/d/a/A", "ann", 63, "\x00\n"), probe.Dir("/d/B", "ann", 1), probe.File("/d/a0", "ann", 2, "C00 0 x\n"), probe.File("/d1", "ann", 60, "no"), probe.Dir("/e", "ann", 61), probe.File("/e/d", "ann", 60, "no"),
	)
	inside := "D70 0 a\nC77 2 A\n\x00\n\x00C00 0 z\n\x00E\n"
	gives(t, x, "root", "/d", true, "D75 0 d\nD01 0 B\nE\n"+inside+"C60 1 a-\n-\x00C02 8 a0\nC00 0 x\n\x00C74 1 b\nB\x00E\n", 0)
	gives(t, x, "root", "/d/a", true, inside, 0)
	gives(t, x, "root", "/d/B", true, "D01 0 B\nE\n", 0)
}

// TestSourceErrors: P23.1, the errors of what is asked for, each named ahead of the next one.
func TestSourceErrors(t *testing.T) {
	x := probe.Planted(probe.Dir("/d", "ann", 56), probe.Dir("/d/e", "ann", 61), probe.File("/d/f", "ann", 61, "f"), probe.Dir("/shut", "ann", 0), probe.File("/f", "ann", 56, "f"))
	for _, all := range []bool{true, false} {
		for _, path := range []string{"", "d", "//", "/d/", "/..", "/d/.", "/a b", "/a/b/c/d/e/f/g", "/thirteen-is13"} {
			gives(t, x, "root", path, all, "", api.ErrName)
		}
		gives(t, x, "root", "/none", all, "", api.ErrNotFound)
		gives(t, x, "root", "/none/f", all, "", api.ErrNotFound)
		gives(t, x, "root", "/f/f", all, "", api.ErrNotDir)
		gives(t, x, "bob", "/d/f", all, "", api.ErrMode)
		gives(t, x, "bob", "/d/e", all, "", api.ErrMode)
		gives(t, x, "bob", "/d/none", all, "", api.ErrMode)
		gives(t, x, "bob", "/f", all, "", api.ErrMode)
		for _, who := range []string{"root", "ann", "bob"} {
			gives(t, x, who, "/", all, "", api.ErrArg)
		}
	}
	for _, who := range []string{"root", "ann", "bob"} {
		gives(t, x, who, "/shut", false, "", api.ErrIsDir)
		gives(t, x, who, "/d", false, "", api.ErrIsDir)
	}
	gives(t, x, "ann", "/shut", true, "", api.ErrMode)
	gives(t, x, "bob", "/d", true, "", api.ErrMode)
	gives(t, x, "ann", "/d/e", true, "D75 0 e\nE\n", 0)
	shut := tree.New()
	shut.Chmod("root", "/", 0)
	gives(t, shut, "ann", "/", true, "", api.ErrArg)
	gives(t, shut, "ann", "/f", true, "", api.ErrMode)
}

// TestSourceRights: P23.1, who must be able to read each node, and to enter each directory that has some, and needs no other right; else there is no stream.
func TestSourceRights(t *testing.T) {
	const read, enter = 4, 1
	for mode := range 8 {
		for _, who := range []string{"root", "ann", "bob"} {
			own := mode
			if who == "ann" {
				own = mode * 8
			}
			may := func(bits int) api.Errno {
				if who == "root" || mode&bits == bits {
					return api.OK
				}
				return api.ErrMode
			}
			for _, c := range []struct {
				node api.Node
				bits int
				want string
			}{
				{probe.File("/d/m", "ann", own, "x"), read, fmt.Sprintf("C%02o 1 m\nx\x00", own)},
				{probe.Dir("/d/m", "ann", own), read, fmt.Sprintf("D%02o 0 m\nE\n", own)},
			} {
				x := probe.Planted(probe.Dir("/d", "carl", 61), probe.File("/d/a", "carl", 63, "A"), c.node, probe.File("/d/z", "carl", 63, "Z"))
				whole := "D75 0 d\nC77 1 a\nA\x00" + c.want + "C77 1 z\nZ\x00E\n"
				e := may(c.bits)
				if e != api.OK {
					c.want, whole = "", ""
				}
				gives(t, x, who, "/d/m", true, c.want, e)
				gives(t, x, who, "/d", true, whole, e)
			}
			e := may(read | enter)
			for _, inside := range []struct {
				node api.Node
				want string
			}{{probe.File("/m/a", "carl", 63, "A"), "C77 1 a\nA\x00"}, {probe.Dir("/m/a", "carl", 63), "D77 0 a\nE\n"}} {
				want := fmt.Sprintf("D%02o 0 m\n%sE\n", own, inside.want)
				if e != api.OK {
					want = ""
				}
				gives(t, probe.Planted(probe.Dir("/m", "ann", own), inside.node), who, "/m", true, want, e)
			}
		}
	}
}

// TestSourceFull: P23.1, a tree of as many nodes as there may be, each file of as much as it may have.
func TestSourceFull(t *testing.T) {
	nodes, want := []api.Node{probe.Dir("/d", "root", 61)}, "D75 0 d\n"
	data := strings.Repeat("x", 1000)
	for n := range 62 {
		name := fmt.Sprintf("f%02d", n)
		nodes = append(nodes, probe.File("/d/"+name, "root", n, data))
		want += fmt.Sprintf("C%02o 1000 %s\n%s\x00", n, name, data)
	}
	gives(t, probe.Planted(nodes...), "root", "/d", true, want+"E\n", 0)
}

// TestSourceChangesNothing: P23.1 and P23.6, the tree stays as it is, and an answer may be written over.
func TestSourceChangesNothing(t *testing.T) {
	nodes := []api.Node{probe.Dir("/d", "ann", 61), probe.File("/d/f", "ann", 60, "data")}
	x := probe.Planted(nodes...)
	for _, path := range []string{"/d", "/d/f"} {
		one, _ := rcp.Source(x, "root", path, true)
		two, _ := rcp.Source(x, "root", path, true)
		kept := string(two)
		probe.Spoil(one)
		if string(two) != kept {
			t.Errorf("%q: answers share memory", path)
		}
		probe.Spoil(two)
		gives(t, x, "root", path, true, kept, 0)
		gives(t, x, "root", "/none", true, "", api.ErrNotFound)
	}
	holds(t, x, nodes...)
}

package tree_test

import (
	"testing"

	"gangway/api"
	"gangway/probe"
	"gangway/tree"
)

// mayOf tells whether who may do what a letter is for with a node of this mode that is ann's, by a table of what each digit allows.
func mayOf(who string, what byte, mode int) bool {
	allowed := []string{"", "e", "w", "we", "r", "re", "rw", "rwe"}
	digit := allowed[mode%8]
	switch who {
	case "root":
		return true
	case "ann":
		digit = allowed[mode/8]
	}
	for i := range digit {
		if digit[i] == what {
			return true
		}
	}
	return false
}

// TestRights: P19.2 to P19.5, in each mode, each of root, the owner and others may do just what a bit of theirs is for.
func TestRights(t *testing.T) {
	for mode := range 64 {
		for _, who := range []string{"root", "ann", "bob", "", "Ann", "ann2", "an"} {
			for _, c := range []struct {
				name string
				bit  byte
				do   func(x *tree.Tree) api.Errno
			}{
				{"Stat in it", 'e', func(x *tree.Tree) api.Errno { _, e := x.Stat(who, "/d/f"); return e }},
				{"Stat in a directory in it", 'e', func(x *tree.Tree) api.Errno { _, e := x.Stat(who, "/d/open/f"); return e }},
				{"Read in it", 'e', func(x *tree.Tree) api.Errno { _, e := x.Read(who, "/d/f"); return e }},
				{"List in it", 'e', func(x *tree.Tree) api.Errno { _, e := x.List(who, "/d/open"); return e }},
				{"Write in it over a file", 'e', func(x *tree.Tree) api.Errno { return x.Write(who, "/d/f", nil, 0) }},
				{"Mkdir further in", 'e', func(x *tree.Tree) api.Errno { return x.Mkdir(who, "/d/open/new", 0) }},
				{"Write further in", 'e', func(x *tree.Tree) api.Errno { return x.Write(who, "/d/open/new", nil, 0) }},
				{"Remove further in", 'e', func(x *tree.Tree) api.Errno { return x.Remove(who, "/d/open/f") }},
				{"List", 'r', func(x *tree.Tree) api.Errno { _, e := x.List(who, "/d"); return e }},
				{"Read", 'r', func(x *tree.Tree) api.Errno { _, e := x.Read(who, "/f"); return e }},
				{"Write", 'w', func(x *tree.Tree) api.Errno { return x.Write(who, "/f", nil, 0) }},
			} {
				want := api.ErrMode
				if mayOf(who, c.bit, mode) {
					want = api.OK
				}
				if e := c.do(guarded(mode)); e != want {
					t.Errorf("mode %d, %q: %s: %v, not %v", mode, who, c.name, e, want)
				}
			}
		}
	}
}

// guarded gives a tree in which ann's directory /d and file /f have a mode; all may do all with what is in /d.
func guarded(mode int) *tree.Tree {
	return probe.Planted(dir("/d", "ann", mode), file("/d/f", "carl", 63, "f"), dir("/d/open", "carl", 63), file("/d/open/f", "carl", 63, "f"), file("/f", "ann", mode, "f"))
}

// TestRightsOfParent: P19.4 and P19.5, to make a node, or to take one away, who must enter and write its parent, and need no right of the node.
func TestRightsOfParent(t *testing.T) {
	for mode := range 64 {
		for _, who := range []string{"root", "ann", "bob", ""} {
			want := api.ErrMode
			if mayOf(who, 'e', mode) && mayOf(who, 'w', mode) {
				want = api.OK
			}
			says(t, "Mkdir", guarded(mode).Mkdir(who, "/d/new", 0), want)
			says(t, "Write", guarded(mode).Write(who, "/d/new", nil, 0), want)
			says(t, "Remove of a file", guarded(mode).Remove(who, "/d/f"), want)
			x := guarded(mode)
			says(t, "Mkdir by root", x.Mkdir("root", "/d/none", 0), api.OK)
			says(t, "Remove of a directory", x.Remove(who, "/d/none"), want)
			if want == api.OK {
				want = api.ErrNotEmpty
			}
			says(t, "Remove of one that has nodes", guarded(mode).Remove(who, "/d/open"), want)
		}
	}
}

// TestRightsOfTop: P19.2, P19.4 and P19.5, the top's mode and owner count as any other's.
func TestRightsOfTop(t *testing.T) {
	for mode := range 64 {
		for _, who := range []string{"root", "ann", "bob"} {
			for _, name := range []string{"Mkdir", "Write", "Remove", "Stat", "List"} {
				x := probe.Planted(file("/f", "carl", 0, "f"))
				says(t, "Chmod", x.Chmod("root", "/", mode), api.OK)
				says(t, "Give", x.Give("root", "/", "ann"), api.OK)
				may, e := mayOf(who, 'e', mode) && mayOf(who, 'w', mode), api.OK
				switch name {
				case "Mkdir":
					e = x.Mkdir(who, "/d", 0)
				case "Write":
					e = x.Write(who, "/d", nil, 0)
				case "Remove":
					e = x.Remove(who, "/f")
				case "Stat":
					_, e = x.Stat(who, "/f")
					may = mayOf(who, 'e', mode)
				case "List":
					_, e = x.List(who, "/")
					may = mayOf(who, 'r', mode)
				}
				if (e == api.OK) != may || e != api.OK && e != api.ErrMode {
					t.Errorf("mode %d, %q: %s: %v", mode, who, name, e)
				}
			}
		}
	}
}

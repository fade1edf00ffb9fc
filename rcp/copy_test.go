package rcp_test

import (
	"slices"
	"strings"
	"testing"

	"gangway/api"
	"gangway/probe"
	"gangway/rcp"
	"gangway/tree"
)

// below gives those of a tree's nodes that are a path's own, or stand below it, and the others.
func below(x *tree.Tree, path string) (in, out []api.Node) {
	for _, n := range x.Nodes() {
		if n.Path == path || strings.HasPrefix(n.Path, path+"/") {
			in = append(in, n)
		} else {
			out = append(out, n)
		}
	}
	return in, out
}

// moved gives nodes as root has them behind a copy from one path to another.
func moved(nodes []api.Node, from, to string, modes bool) []api.Node {
	nodes = slices.Clone(nodes)
	for i, n := range nodes {
		nodes[i].Path = to + strings.TrimPrefix(n.Path, from)
		nodes[i].Owner = "root"
		switch {
		case modes:
		case n.Dir:
			nodes[i].Mode = 61
		default:
			nodes[i].Mode = 60
		}
	}
	slices.SortFunc(nodes, func(a, b api.Node) int { return strings.Compare(a.Path, b.Path) })
	return nodes
}

// free gives a path where there is nothing, whose parent is a directory.
func free(d *probe.Dice, x *tree.Tree) string {
	for {
		dirs := slices.DeleteFunc(x.Nodes(), func(n api.Node) bool { return !n.Dir })
		path := strings.TrimSuffix(dirs[d.Roll(len(dirs))].Path, "/") + "/" + []string{someName(d), "new", "copy.of_it"}[d.Roll(3)]
		if _, e := x.Stat("root", path); e == api.ErrNotFound {
			return path
		}
	}
}

// copies copies a node to where there is nothing, and asserts that it is there, whole, and nothing else has changed, or why that can't be; that is told.
func copies(t *testing.T, x, y *tree.Tree, from, to string, modes bool, pieces func(stream string) []string) api.Errno {
	t.Helper()
	nodes, _ := below(x, from)
	_, others := below(y, to)
	stream, e := rcp.Source(x, "root", from, true)
	if e != api.OK {
		t.Fatalf("%q: %v", from, e)
	}
	s := rcp.NewSink(y, "root", to, modes)
	for _, piece := range pieces(string(stream)) {
		s.Feed([]byte(piece))
	}
	want := moved(nodes, from, to, modes)
	e = s.Close()
	got, rest := below(y, to)
	deep := slices.ContainsFunc(want, func(n api.Node) bool { return !tree.Path(n.Path) })
	full := len(others)+len(want) > 64
	switch {
	case !probe.SameNodes(rest, others):
		t.Fatalf("%q to %q: %+v, not %+v", from, to, rest, others)
	case e == api.ErrName && deep, e == api.ErrFull && full:
		if s.Made() != len(got) || len(got) >= len(want) {
			t.Fatalf("%q to %q: %d made, of %d %d", from, to, s.Made(), len(want), len(got))
		}
	case e != api.OK || s.Made() != len(want) || !probe.SameNodes(got, want):
		t.Fatalf("%q to %q: %v, %d made, %+v, not %+v", from, to, e, s.Made(), got, want)
	}
	return e
}

// TestCopy: P23.5, any node, copied by root to where there is nothing, in any pieces, is there as it was, and nothing else has changed.
func TestCopy(t *testing.T) {
	met := map[api.Errno]int{}
	for seed := range uint64(3000) {
		d := probe.NewDice(seed)
		nodes := someNodes(d, []int{6, 20, 200}[d.Roll(3)])
		if len(nodes) == 0 {
			continue
		}
		x, y := probe.Planted(nodes...), probe.Planted(someNodes(d, []int{6, 20, 200}[d.Roll(3)])...)
		from, to := nodes[d.Roll(1+d.Roll(len(nodes)))].Path, free(d, y)
		if strings.Count(to, "/") > 6 {
			continue
		}
		met[copies(t, x, y, from, to, d.Roll(2) == 0, d.Cut)]++
	}
	if met[0] < 1500 || met[api.ErrName] < 50 || met[api.ErrFull] < 50 {
		t.Errorf("met %v", met)
	}
}

// TestCopyInAnyTwo: P23.5, a directory of all that there may be in one, byte by byte and in any two pieces.
func TestCopyInAnyTwo(t *testing.T) {
	x := probe.Planted(probe.Dir("/d", "ann", 56), probe.File("/d/E", "ann", 0, "E\n\x00C74 1 f\nx\x00"), probe.Dir("/d/e", "bob", 0), probe.File("/d/f", "bob", 7, ""), probe.File("/f", "ann", 9, "\x00\x00"))
	for _, from := range []string{"/d", "/f", "/d/e", "/d/f", "/d/E"} {
		for _, modes := range []bool{true, false} {
			stream, _ := rcp.Source(x, "root", from, true)
			for i := range len(stream) + 1 {
				y := probe.Planted(probe.Dir("/in", "carl", 0))
				copies(t, x, y, from, "/in/to", modes, func(stream string) []string { return []string{stream[:i], stream[i:]} })
			}
			copies(t, x, tree.New(), from, "/to", modes, func(stream string) []string { return strings.Split(stream, "") })
		}
	}
}

// TestCopyWithin: P23.2 and P23.5, what is copied to a directory that is there is in it by its own name; one tree may be both.
func TestCopyWithin(t *testing.T) {
	x := probe.Planted(probe.Dir("/d", "ann", 56), probe.File("/d/f", "ann", 48, "data"))
	stream, _ := rcp.Source(x, "ann", "/d", true)
	ends(t, rcp.NewSink(x, "root", "/d", true), string(stream), 2)
	holds(t, x, probe.Dir("/d", "ann", 56), probe.Dir("/d/d", "root", 56), probe.File("/d/d/f", "root", 48, "data"), probe.File("/d/f", "ann", 48, "data"))
	ends(t, rcp.NewSink(x, "root", "/", false), string(stream), 2)
	holds(t, x, probe.Dir("/d", "ann", 56), probe.Dir("/d/d", "root", 56), probe.File("/d/d/f", "root", 48, "data"), probe.File("/d/f", "ann", 48, "data"))
}

// TestCopyAsSomebody: P23.3, what is made is of who, who needs layer 19's rights for it.
func TestCopyAsSomebody(t *testing.T) {
	x := probe.Planted(probe.Dir("/home", "ann", 61))
	s := rcp.NewSink(x, "ann", "/home/to", true)
	ends(t, s, "D73 0 d\nC04 1 f\nx\x00E\n", 2)
	want := []api.Node{probe.Dir("/home", "ann", 61), probe.Dir("/home/to", "ann", 59), probe.File("/home/to/f", "ann", 4, "x")}
	holds(t, x, want...)
	fails(t, rcp.NewSink(x, "bob", "/home/to", true), "C74 1 f\ny\x00", api.ErrMode, 0)
	fails(t, rcp.NewSink(x, "ann", "/home/to", true), "C74 1 f\ny\x00", api.ErrMode, 0)
	fails(t, rcp.NewSink(x, "bob", "/home", true), "D74 0 g\nE\n", api.ErrMode, 0)
	holds(t, x, want...)
	ends(t, rcp.NewSink(x, "bob", "/home/to", true), "D74 0 g\nE\n", 1)
	holds(t, x, append(want, probe.Dir("/home/to/g", "bob", 60))...)
	s = rcp.NewSink(x, "ann", "/home", true)
	goesOn(t, s, "D07 0 shut\n", 1)
	fails(t, s, "D77 0 in\n", api.ErrMode, 1)
}

// TestSinksShareTheirTree: rule 6, sinks over one tree see each other's files, and nothing else of each other; those over others see nothing.
func TestSinksShareTheirTree(t *testing.T) {
	x, y := tree.New(), tree.New()
	a, b, other := rcp.NewSink(x, "root", "/", true), rcp.NewSink(x, "root", "/", true), rcp.NewSink(y, "root", "/", true)
	goesOn(t, a, "D70 0 d\nC7", 1)
	ends(t, b, "D77 0 d\nC11 1 f\nb\x00E\n", 2)
	goesOn(t, other, "C7", 0)
	goesOn(t, a, "4 1 f\n", 1)
	fails(t, b, "E\n", api.ErrForm, 2)
	goesOn(t, a, "a\x00", 2)
	ends(t, a, "E\n", 2)
	holds(t, x, probe.Dir("/d", "root", 56), probe.File("/d/f", "root", 9, "a"))
	holds(t, y)
}

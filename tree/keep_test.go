package tree_test

import (
	"reflect"
	"slices"
	"strconv"
	"strings"
	"testing"

	"gangway/api"
	"gangway/probe"
	"gangway/tree"
)

// mine gives texts that may be written over.
func mine(texts ...string) []string {
	var list []string
	for _, s := range texts {
		list = append(list, strings.Clone(s))
	}
	return list
}

// TestNothingIsKept: P19.6, what is handed in may be written over behind the call.
func TestNothingIsKept(t *testing.T) {
	x := probe.Planted(dir("/p", "ann", 61))
	for _, text := range mine("/p/d", "/p/f") {
		who := strings.Clone("ann")
		if text == "/p/d" {
			says(t, "Mkdir", x.Mkdir(who, text, 61), api.OK)
		} else {
			data, _ := probe.Roomy("data")
			says(t, "Write", x.Write(who, text, data, 60), api.OK)
			probe.Spoil(data)
		}
		spoilText(text)
		spoilText(who)
	}
	want := []api.Node{dir("/p", "ann", 61), dir("/p/d", "ann", 61), file("/p/f", "ann", 60, "data")}
	has(t, x, want...)
	lists(t, x, "ann", "/p", "d", "f")
	reads(t, x, "ann", "/p/f", "data", api.OK)

	over := mine("/p/f", "ann")
	data, _ := probe.Roomy("other")
	says(t, "Write", x.Write(over[1], over[0], data, 0), api.OK)
	probe.Spoil(data)
	given := mine("/p/d", "bob", "root")
	says(t, "Give", x.Give(given[2], given[0], given[1]), api.OK)
	for _, text := range append(over, given...) {
		spoilText(text)
	}
	want[1].Owner, want[2].Data = "bob", []byte("other")
	has(t, x, want...)
	stats(t, x, "bob", want[1])
}

// TestNothingIsChanged: P19.6, data that are handed in, and their spare room, stay as they are, also while the file is written anew.
func TestNothingIsChanged(t *testing.T) {
	x := tree.New()
	for _, text := range []string{"first", "", "longer than the first", "x", strings.Repeat("y", 1000)} {
		data, all := probe.Roomy(text)
		says(t, "Write", x.Write("root", "/f", data, 60), api.OK)
		says(t, "Write", x.Write("root", "/f", []byte("another"), 60), api.OK)
		says(t, "Write", x.Write("root", "/f", nil, 60), api.OK)
		if string(all) != text+probe.Spare {
			t.Errorf("%q", all)
		}
	}
}

// TestAnswersAreNew: P19.6, answers may be written over, their spare room and their texts, too; neither the tree nor other answers have them.
func TestAnswersAreNew(t *testing.T) {
	nodes := []api.Node{dir("/d", "ann", 61), file("/d/a", "bob", 61, "some data"), file("/d/b", "ann", 61, "other data"), file("/f", "carl", 61, "f")}
	x := probe.Planted(nodes...)
	for range 2 {
		one, two := x.Nodes(), x.Nodes()
		spoilNodes(one)
		if !probe.SameNodes(two[1:], nodes) {
			t.Errorf("lists share memory: %+v", two)
		}
		spoilNodes(two)
		has(t, x, nodes...)

		n, _ := x.Stat("ann", "/d/a")
		again, _ := x.Stat("ann", "/d/a")
		data, _ := x.Read("ann", "/d/a")
		spoilNodes([]api.Node{n})
		if string(data) != "some data" || !probe.SameNodes([]api.Node{again}, nodes[1:2]) {
			t.Errorf("%q, %+v", data, again)
		}
		probe.Spoil(data)
		reads(t, x, "ann", "/d/a", "some data", api.OK)

		names, _ := x.List("ann", "/d")
		same, _ := x.List("ann", "/d")
		for _, name := range names {
			spoilText(name)
		}
		room := names[:cap(names)]
		for i := range room {
			room[i] = "x"
		}
		if !slices.Equal(same, []string{"a", "b"}) {
			t.Errorf("lists share memory: %q", same)
		}
		has(t, x, nodes...)
	}
}

// spoilNodes writes over a list of nodes, over what they have, and over the spare room of it.
func spoilNodes(list []api.Node) {
	for _, n := range list {
		spoilText(n.Owner)
		spoilText(n.Path)
		probe.Spoil(n.Data)
	}
	list = list[:cap(list)]
	for i := range list {
		list[i] = api.Node{Path: "x"}
	}
}

// TestDataAreApart: P19.6, what files have isn't what other files have, also where one was read and written into another.
func TestDataAreApart(t *testing.T) {
	x := probe.Planted(file("/f", "ann", 61, "one"))
	data, _ := x.Read("ann", "/f")
	says(t, "Write", x.Write("root", "/g", data, 60), api.OK)
	says(t, "Write", x.Write("ann", "/f", []byte("two"), 0), api.OK)
	has(t, x, file("/f", "ann", 61, "two"), file("/g", "root", 60, "one"))
}

// TestApart: rule 6, what is done to one tree isn't seen in another.
func TestApart(t *testing.T) {
	a, b := tree.New(), tree.New()
	says(t, "Mkdir", a.Mkdir("root", "/a", 61), api.OK)
	has(t, b)
	says(t, "Chmod", b.Chmod("root", "/", 7), api.OK)
	says(t, "Give", b.Give("root", "/", "ann"), api.OK)
	has(t, a, dir("/a", "root", 61))
	has(t, tree.New())
	says(t, "Remove", a.Remove("root", "/a"), api.OK)
	has(t, a)
	holds(t, b, dir("/", "ann", 7))
}

// TestAnyArguments: P1 and P2, each call ends, without a panic, and answers the same in a second run.
func TestAnyArguments(t *testing.T) {
	answers := func(text string) []any {
		x := tree.New()
		out := []any{tree.Path(text), x.Nodes()}
		for i := range text {
			who, path := []string{"root", text[:i], text[i:]}[i%3], "/"+text[i:]
			mode := append(notModes, i, 61, 63)[(i*7+len(text)*3)%(len(notModes)+3)]
			out = append(out, x.Mkdir("root", path, 63), x.Mkdir(who, path, mode), x.Write("root", path, []byte(text), 63), x.Write(who, path+"/"+text[:i], []byte(path), 61))
			n, e := x.Stat(who, path)
			data, e1 := x.Read(who, path)
			names, e2 := x.List(who, text[i:])
			out = append(out, n, e, data, e1, names, e2, x.Chmod(who, path, mode), x.Give(who, path, text), x.Remove(who, path), x.Remove(path, text))
		}
		names, e := x.List("root", "/")
		return append(out, names, e, x.Nodes())
	}
	if s, parts := probe.Parting(probe.Texts("/.a\x00\xff", 6), answers, reflect.DeepEqual); parts {
		t.Errorf("%q: two runs part", s)
	}
}

// TestSecondRun: P2, a tree of many nodes tells the same in each run, in whatever order its nodes are gone through.
func TestSecondRun(t *testing.T) {
	var first []api.Node
	for run := range 20 {
		x := tree.New()
		for n := range 70 {
			x.Mkdir("root", "/d"+strconv.Itoa(n%9), 61)
			x.Write("root", "/d"+strconv.Itoa(n%9)+"/"+strconv.Itoa(n), []byte{byte(n)}, 60)
		}
		if run == 0 {
			first = x.Nodes()
		}
		if !probe.SameNodes(first, x.Nodes()) || len(first) != 64 {
			t.Errorf("run %d: %d nodes part", run, len(first))
		}
		lists(t, x, "root", "/", "d0", "d1", "d2", "d3", "d4", "d5", "d6", "d7", "d8")
	}
}

package tree_test

import (
	"slices"
	"strings"
	"testing"

	"gangway/api"
	"gangway/probe"
	"gangway/tree"
)

// twin is a tree of nodes that stand in each other; it does as a Tree does.
type twin struct {
	node   api.Node
	inside map[string]*twin
}

// newTwin gives the twin of a new tree.
func newTwin() *twin {
	return &twin{node: dir("/", "root", 61), inside: map[string]*twin{}}
}

// may tells whether who may do what a digit of a mode has a bit for.
func (w *twin) may(who string, bit int) bool {
	digit := w.node.Mode & 7
	if who == w.node.Owner {
		digit = w.node.Mode >> 3
	}
	return who == "root" || digit/bit%2 == 1
}

// come gives the directory in which a path's last name stands, that name, and the node there, if there is one; of the top no directory.
func (w *twin) come(who, path string) (in *twin, name string, at *twin, e api.Errno) {
	if !isPath(path) {
		return nil, "", nil, api.ErrName
	}
	names := strings.Split(path[1:], "/")
	if path == "/" {
		return nil, "", w, api.OK
	}
	for i, name := range names {
		switch {
		case w == nil:
			return nil, "", nil, api.ErrNotFound
		case !w.node.Dir:
			return nil, "", nil, api.ErrNotDir
		case !w.may(who, 1):
			return nil, "", nil, api.ErrMode
		case i < len(names)-1:
			w = w.inside[name]
		}
	}
	name = names[len(names)-1]
	return w, name, w.inside[name], api.OK
}

// find is come to what must be there.
func (w *twin) find(who, path string) (*twin, api.Errno) {
	_, _, at, e := w.come(who, path)
	if e == api.OK && at == nil {
		e = api.ErrNotFound
	}
	return at, e
}

// stat does as Stat does.
func (w *twin) stat(who, path string) (api.Node, api.Errno) {
	at, e := w.find(who, path)
	if e != api.OK {
		return api.Node{}, e
	}
	return at.node, e
}

// read does as Read does.
func (w *twin) read(who, path string) (string, api.Errno) {
	at, e := w.find(who, path)
	if e == api.OK && at.node.Dir {
		e = api.ErrIsDir
	} else if e == api.OK && !at.may(who, 4) {
		e = api.ErrMode
	}
	if e != api.OK {
		return "", e
	}
	return string(at.node.Data), e
}

// list does as List does.
func (w *twin) list(who, path string) ([]string, api.Errno) {
	at, e := w.find(who, path)
	if e == api.OK && !at.node.Dir {
		e = api.ErrNotDir
	} else if e == api.OK && !at.may(who, 4) {
		e = api.ErrMode
	}
	if e != api.OK {
		return nil, e
	}
	var names []string
	for name := range at.inside {
		names = append(names, name)
	}
	slices.Sort(names)
	return names, e
}

// add puts a node that its owner makes into a directory of the tree.
func (w *twin) add(in *twin, name string, n api.Node) api.Errno {
	if !in.may(n.Owner, 2) {
		return api.ErrMode
	}
	if len(w.nodes()) == 64 {
		return api.ErrFull
	}
	in.inside[name] = &twin{node: n, inside: map[string]*twin{}}
	return api.OK
}

// mkdir does as Mkdir does.
func (w *twin) mkdir(who, path string, mode int) api.Errno {
	in, name, at, e := w.come(who, path)
	if e != api.OK {
		return e
	}
	if mode < 0 || mode > 63 {
		return api.ErrArg
	}
	if at != nil {
		return api.ErrExists
	}
	return w.add(in, name, dir(path, who, mode))
}

// write does as Write does.
func (w *twin) write(who, path, data string, mode int) api.Errno {
	in, name, at, e := w.come(who, path)
	switch {
	case e != api.OK:
		return e
	case mode < 0 || mode > 63:
		return api.ErrArg
	case len(data) > 1000:
		return api.ErrLong
	case at == nil:
		return w.add(in, name, file(path, who, mode, data))
	case at.node.Dir:
		return api.ErrIsDir
	case !at.may(who, 2):
		return api.ErrMode
	}
	at.node.Data = []byte(data)
	return api.OK
}

// remove does as Remove does.
func (w *twin) remove(who, path string) api.Errno {
	in, name, at, e := w.come(who, path)
	switch {
	case e != api.OK:
		return e
	case in == nil:
		return api.ErrArg
	case at == nil:
		return api.ErrNotFound
	case !in.may(who, 2):
		return api.ErrMode
	case len(at.inside) > 0:
		return api.ErrNotEmpty
	}
	delete(in.inside, name)
	return api.OK
}

// chmod does as Chmod does.
func (w *twin) chmod(who, path string, mode int) api.Errno {
	_, _, at, e := w.come(who, path)
	switch {
	case e != api.OK:
		return e
	case mode < 0 || mode > 63:
		return api.ErrArg
	case at == nil:
		return api.ErrNotFound
	case who != "root" && who != at.node.Owner:
		return api.ErrMode
	}
	at.node.Mode = mode
	return api.OK
}

// give does as Give does.
func (w *twin) give(who, path, owner string) api.Errno {
	at, e := w.find(who, path)
	if e == api.OK && who != "root" {
		e = api.ErrMode
	}
	if e == api.OK {
		at.node.Owner = owner
	}
	return e
}

// nodes does as Nodes does.
func (w *twin) nodes() []api.Node {
	list := []api.Node{w.node}
	for _, in := range w.inside {
		list = append(list, in.nodes()...)
	}
	slices.SortFunc(list, func(a, b api.Node) int { return strings.Compare(a.Path, b.Path) })
	return list
}

// somePath gives a path, most often of something that is there, or that stands in it.
func somePath(d *probe.Dice, w *twin) string {
	nodes := w.nodes()
	path := nodes[d.Roll(len(nodes))].Path
	names := []string{"a", "b", "a-b", "a.b", "a0", "B", "...", twelve, twelve[1:] + "Z"}
	for range d.Roll(3) {
		path = strings.TrimSuffix(path, "/") + "/" + names[d.Roll(len(names))]
	}
	if d.Roll(30) == 0 {
		path += []string{"/", "/..", "/.", "//", "x" + twelve, "\x00", "/a/a/a/a/a/a"}[d.Roll(7)]
	}
	return path
}

// someMode gives a mode, or a number that is none; most often one that lets others do much.
func someMode(d *probe.Dice) int {
	if d.Roll(12) == 0 {
		return notModes[d.Roll(len(notModes))]
	}
	if d.Roll(3) == 0 {
		return d.Roll(64)
	}
	return 63
}

// both holds a tree and its twin, and counts which errors each call has answered. In one that grows little is taken away.
type both struct {
	x     *tree.Tree
	w     *twin
	grows bool
	met   map[string]map[api.Errno]int
}

// step does one call on both, and gives what it was, and whether they have answered the same.
func (b *both) step(d *probe.Dice) (string, bool) {
	who := []string{"root", "ann", "bob", "", "root"}[d.Roll(5)]
	path, mode := somePath(d, b.w), someMode(d)
	kind := d.Roll(12)
	if b.grows && (kind == 4 || kind == 5) && len(b.w.nodes()) < 64 {
		kind = 0
	}
	switch kind {
	case 0, 1:
		got, want := b.x.Mkdir(who, path, mode), b.w.mkdir(who, path, mode)
		return b.count("Mkdir", got, want, true)
	case 2, 3:
		data := d.Text(d.Roll(1070))
		got, want := b.x.Write(who, path, []byte(data), mode), b.w.write(who, path, data, mode)
		return b.count("Write", got, want, true)
	case 4, 5:
		got, want := b.x.Remove(who, path), b.w.remove(who, path)
		return b.count("Remove", got, want, true)
	case 6:
		got, want := b.x.Chmod(who, path, mode), b.w.chmod(who, path, mode)
		return b.count("Chmod", got, want, true)
	case 7:
		owner := []string{"root", "ann", "bob", ""}[d.Roll(4)]
		got, want := b.x.Give(who, path, owner), b.w.give(who, path, owner)
		return b.count("Give", got, want, true)
	case 8:
		data, got := b.x.Read(who, path)
		same, want := b.w.read(who, path)
		return b.count("Read", got, want, string(data) == same)
	case 9:
		names, got := b.x.List(who, path)
		same, want := b.w.list(who, path)
		return b.count("List", got, want, slices.Equal(names, same))
	}
	n, got := b.x.Stat(who, path)
	same, want := b.w.stat(who, path)
	return b.count("Stat", got, want, probe.SameNodes([]api.Node{n}, []api.Node{same}))
}

// count counts what a call has answered.
func (b *both) count(name string, got, want api.Errno, same bool) (string, bool) {
	if b.met[name] == nil {
		b.met[name] = map[api.Errno]int{}
	}
	b.met[name][want]++
	return name, got == want && same
}

// TestLongRun: P19.1 to P19.5 and rule 3, many calls in no order: each answer, and all nodes behind it, are those of a twin.
func TestLongRun(t *testing.T) {
	met := map[string]map[api.Errno]int{}
	for seed := range uint64(40) {
		b := both{x: tree.New(), w: newTwin(), grows: seed%2 == 1, met: met}
		d := probe.NewDice(seed)
		for i := range 1500 {
			if name, same := b.step(d); !same {
				t.Fatalf("seed %d, step %d: %s parts", seed, i, name)
			}
			if got, want := b.x.Nodes(), b.w.nodes(); !probe.SameNodes(got, want) {
				t.Fatalf("seed %d, step %d: %+v, not %+v", seed, i, got, want)
			}
		}
	}
	way := []api.Errno{api.OK, api.ErrName, api.ErrNotFound, api.ErrNotDir, api.ErrMode}
	for name, more := range map[string][]api.Errno{
		"Stat": nil, "Read": {api.ErrIsDir}, "List": nil, "Mkdir": {api.ErrArg, api.ErrExists, api.ErrFull}, "Write": {api.ErrArg, api.ErrLong, api.ErrIsDir, api.ErrFull},
		"Remove": {api.ErrArg, api.ErrNotEmpty}, "Chmod": {api.ErrArg}, "Give": nil,
	} {
		for _, e := range append(slices.Clone(way), more...) {
			if met[name][e] < 20 {
				t.Errorf("%s: %v was met %d times", name, e, met[name][e])
			}
		}
	}
}

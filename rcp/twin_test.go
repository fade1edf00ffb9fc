package rcp_test

import (
	"fmt"
	"regexp"
	"slices"
	"strconv"
	"strings"
	"testing"

	"gangway/api"
	"gangway/probe"
	"gangway/rcp"
	"gangway/tree"
)

// nodeLine is how a line of a node begins a stream; it looks at no data, so that a byte stands as itself.
func nodeLine() *regexp.Regexp {
	return regexp.MustCompile(`^([CD])([0-7][0-7]) (0|[1-9][0-9]{0,2}|1000) ([-._A-Za-z0-9]{1,12})\n`)
}

// told is what a sink answers behind some bytes.
type told struct {
	feed, close api.Errno
	made        int
}

// twin copies as a sink does, but all that came at once; within tells whether the path was a directory when the first line came.
type twin struct {
	x             *tree.Tree
	who, path     string
	modes, within bool
	node          *regexp.Regexp
}

// takes does what all the bytes that came to a sink ask for.
func (w twin) takes(stream string) told {
	var at []string // the names of the stream's directories that it is inside of
	made, nodes := 0, 0
	failed := func(e api.Errno) told { return told{feed: e, close: e, made: made} }
	for strings.Contains(stream, "\n") {
		if strings.HasPrefix(stream, "E\n") && len(at) > 0 {
			at, stream = at[:len(at)-1], stream[2:]
			continue
		}
		m := w.node.FindStringSubmatch(stream)
		if m == nil || m[4] == "." || m[4] == ".." || m[1] == "D" && m[3] != "0" || len(at) == 0 && nodes > 0 && !w.within {
			return failed(api.ErrForm)
		}
		stream = stream[len(m[0]):]
		nodes++
		if m[1] == "D" {
			if e := w.mkdir(w.place(at, m[4]), m[2]); e != api.OK {
				return failed(e)
			}
			at = append(at, m[4])
		} else {
			size, _ := strconv.Atoi(m[3])
			if len(stream) <= size {
				return told{close: api.ErrCopy, made: made}
			}
			if e := w.write(w.place(at, m[4]), m[2], stream[:size], stream[size]); e != api.OK {
				return failed(e)
			}
			stream = stream[size+1:]
		}
		made++
	}
	switch {
	case len(stream) > 80:
		return failed(api.ErrForm)
	case stream != "", len(at) > 0, nodes == 0:
		return told{close: api.ErrCopy, made: made}
	}
	return told{made: made}
}

// place gives the path of a name within directories of the stream; the first name doesn't count but within the path.
func (w twin) place(at []string, name string) string {
	names := slices.Concat(at, []string{name})
	if !w.within {
		names = names[1:]
	}
	return strings.Join(append([]string{strings.TrimSuffix(w.path, "/")}, names...), "/")
}

// mkdir makes a directory where there is none.
func (w twin) mkdir(path, mode string) api.Errno {
	for _, n := range w.x.Nodes() {
		if n.Path == path && n.Dir {
			return api.OK
		}
	}
	return w.x.Mkdir(w.who, path, w.mode(mode, 61))
}

// write writes a file that ends with a byte.
func (w twin) write(path, mode, data string, end byte) api.Errno {
	if end != 0 {
		return api.ErrForm
	}
	return w.x.Write(w.who, path, []byte(data), w.mode(mode, 60))
}

// mode gives the mode of what is made.
func (w twin) mode(digits string, other int) int {
	n, e := strconv.ParseInt(digits, 8, 0)
	if !w.modes || e != nil {
		return other
	}
	return int(n)
}

// agrees feeds a sink piece by piece, and asserts behind each that it answers, and that its tree has, what a twin says of all that came; it gives the last answer.
func agrees(t *testing.T, nodes []api.Node, w twin, pieces []string) told {
	t.Helper()
	x := probe.Planted(nodes...)
	n, _ := x.Stat("root", w.path)
	w.within = n.Dir
	s := rcp.NewSink(x, w.who, w.path, w.modes)
	came, got := "", told{}
	for _, piece := range pieces {
		came += piece
		w.x = probe.Planted(nodes...)
		want := w.takes(came)
		got = told{feed: s.Feed([]byte(piece)), close: s.Close(), made: s.Made()}
		if got != want || !probe.SameNodes(x.Nodes(), w.x.Nodes()) {
			t.Fatalf("%q to %q, %.200q, then %.200q: %v, %+v, not %v, %+v", w.who, w.path, came[:len(came)-len(piece)], piece, got, x.Nodes(), want, w.x.Nodes())
		}
	}
	return got
}

// someNodes gives the nodes of a tree: each one's parent stands ahead of it.
func someNodes(d *probe.Dice, most int) []api.Node {
	dirs := []string{""}
	there := map[string]bool{"/": true}
	var nodes []api.Node
	for range d.Roll(most + 1) {
		path := dirs[d.Roll(len(dirs))] + "/" + someName(d)
		if there[path] || strings.Count(path, "/") > 6 || len(nodes) == 63 {
			continue
		}
		there[path] = true
		mode, owner := []int{63, 61, d.Roll(64)}[d.Roll(3)], []string{"ann", "root", "bob"}[d.Roll(3)]
		if d.Roll(2) == 0 {
			nodes, dirs = append(nodes, probe.Dir(path, owner, mode)), append(dirs, path)
		} else {
			nodes = append(nodes, probe.File(path, owner, mode, someData(d)))
		}
	}
	return nodes
}

// someName gives one of a few names.
func someName(d *probe.Dice) string {
	return []string{"a", "b", "c", "dir", "a-", "Z", "twelve-bytes"}[d.Roll(7)]
}

// someData gives a file's data, which may look like lines.
func someData(d *probe.Dice) string {
	return []string{"", "E\n", "C74 1 f\nx\x00", d.Text(d.Roll(20)), d.Text(1000), strings.Repeat("\n", d.Roll(100))}[d.Roll(6)]
}

// somePath gives a path, most often one that is there, or could be.
func somePath(d *probe.Dice, nodes []api.Node) string {
	if d.Roll(8) == 0 {
		return []string{"x", "", "/new", "/a/b/c", "/a/a/a/a/a/a/a"}[d.Roll(5)]
	}
	path := "/"
	if len(nodes) > 0 && d.Roll(3) > 0 {
		path = nodes[d.Roll(len(nodes))].Path
	}
	if d.Roll(3) == 0 {
		path = strings.TrimSuffix(path, "/") + "/" + someName(d)
	}
	return path
}

// someStream gives a stream, most often one that is right.
func someStream(d *probe.Dice, depth int) string {
	stream := ""
	for range 1 + d.Roll(3) {
		mode := fmt.Sprintf("%02o ", d.Roll(64))
		if d.Roll(3) > 0 {
			mode = "77 "
		}
		switch {
		case depth < 7 && d.Roll(2) == 0:
			stream += "D" + mode + "0 " + someName(d) + "\n"
			if d.Roll(4) > 0 {
				stream += someStream(d, depth+1)
			}
			if d.Roll(50) > 0 {
				stream += "E\n"
			}
		default:
			data := someData(d)
			stream += "C" + mode + strconv.Itoa(len(data)) + " " + someName(d) + "\n" + data + "\x00"
		}
	}
	switch d.Roll(60) {
	case 0:
		return stream + "E\n"
	case 1:
		return stream[:d.Roll(len(stream))]
	case 2:
		i := d.Roll(len(stream))
		return stream[:i] + d.Text(1) + stream[i+1:]
	case 3:
		return stream + strings.Repeat("x", 78+d.Roll(6)) + "\n"
	}
	return stream
}

// TestLongRun: P23.2 to P23.4, streams in no order, over trees in no order, in pieces of many lengths: the answers and the tree behind each are a twin's; each error is met.
func TestLongRun(t *testing.T) {
	node := nodeLine()
	feed, close := map[api.Errno]int{}, map[api.Errno]int{}
	for seed := range uint64(6000) {
		d := probe.NewDice(seed)
		nodes := someNodes(d, []int{4, 12, 12, 200}[d.Roll(4)])
		w := twin{node: node, who: []string{"root", "root", "ann"}[d.Roll(3)], path: somePath(d, nodes), modes: d.Roll(2) == 0}
		got := agrees(t, nodes, w, d.Cut(someStream(d, 0)))
		feed[got.feed]++
		close[got.close]++
	}
	for _, e := range []api.Errno{0, api.ErrForm, api.ErrName, api.ErrNotFound, api.ErrNotDir, api.ErrMode, api.ErrExists, api.ErrIsDir, api.ErrFull} {
		if feed[e] < 20 {
			t.Errorf("%v was met %d times", e, feed[e])
		}
	}
	if close[api.OK] < 500 || close[api.ErrCopy] < 50 {
		t.Errorf("Close: %v", close)
	}
}

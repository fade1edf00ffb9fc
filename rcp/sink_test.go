package rcp_test

import (
	"fmt"
	"slices"
	"strings"
	"testing"

	"gangway/api"
	"gangway/probe"
	"gangway/rcp"
	"gangway/tree"
)

// holds looks whether a tree has just these nodes beside the top.
func holds(t *testing.T, x *tree.Tree, want ...api.Node) {
	t.Helper()
	if got := x.Nodes(); !probe.SameNodes(got[1:], want) {
		t.Errorf("%+v, not %+v", got[1:], want)
	}
}

// feeds asserts what Feed answers, and what Close and Made answer behind it.
func feeds(t *testing.T, s *rcp.Sink, piece string, want, wantClose api.Errno, made int) {
	t.Helper()
	if e := s.Feed([]byte(piece)); e != want {
		t.Errorf("%.100q: %v, not %v", piece, e, want)
	}
	if e := s.Close(); e != wantClose || s.Made() != made {
		t.Errorf("%.100q: Close %v, %d made, not %v, %d", piece, e, s.Made(), wantClose, made)
	}
}

// goesOn asserts that a sink is in the middle of something.
func goesOn(t *testing.T, s *rcp.Sink, piece string, made int) {
	t.Helper()
	feeds(t, s, piece, api.OK, api.ErrCopy, made)
}

// ends asserts that a sink has taken all.
func ends(t *testing.T, s *rcp.Sink, piece string, made int) {
	t.Helper()
	feeds(t, s, piece, api.OK, api.OK, made)
}

// fails asserts that a sink answers an error, and from then on just this, whatever comes, and does nothing more.
func fails(t *testing.T, s *rcp.Sink, piece string, want api.Errno, made int) {
	t.Helper()
	for _, p := range []string{piece, "", "\n", "x", "E\n", "\x00", "C74 1 later\nx\x00", "D75 0 later\nE\n"} {
		feeds(t, s, p, want, want, made)
	}
}

// TestSinkExample: P23.3, the chapter's example, the other way round.
func TestSinkExample(t *testing.T) {
	x := tree.New()
	s := rcp.NewSink(x, "root", "/f", true)
	ends(t, s, "C74 2 f\nab\x00", 1)
	holds(t, x, probe.File("/f", "root", 60, "ab"))
}

// TestSinkNothing: P23.4, a sink to which no line came isn't whole; Close may be asked as often as one likes.
func TestSinkNothing(t *testing.T) {
	x := tree.New()
	for _, path := range []string{"/", "/f", "", "none", "/a/b"} {
		s := rcp.NewSink(x, "root", path, true)
		for range 3 {
			if e := s.Close(); e != api.ErrCopy || s.Made() != 0 {
				t.Errorf("%q: %v, %d made", path, e, s.Made())
			}
			goesOn(t, s, "", 0)
		}
	}
	holds(t, x)
}

// TestSinkByteByByte: P23.3 and P23.4, what is done, and when: a directory with its line, a file with the 0 behind it.
func TestSinkByteByByte(t *testing.T) {
	x := tree.New()
	s := rcp.NewSink(x, "root", "/to", true)
	d, f := probe.Dir("/to", "root", 56), probe.File("/to/f", "root", 63, "E\n")
	for i, piece := range []string{"D", "7", "0", " ", "0", " ", "d"} {
		goesOn(t, s, piece, 0)
		if holds(t, x); t.Failed() {
			t.Fatal(i)
		}
	}
	goesOn(t, s, "\n", 1)
	holds(t, x, d)
	for _, piece := range []string{"C", "7", "7", " ", "2", " ", "f", "\n", "E", "\n"} {
		goesOn(t, s, piece, 1)
		holds(t, x, d)
	}
	goesOn(t, s, "\x00", 2)
	holds(t, x, d, f)
	goesOn(t, s, "C00 0 g\n", 2)
	holds(t, x, d, f)
	goesOn(t, s, "\x00", 3)
	goesOn(t, s, "E", 3)
	ends(t, s, "\n", 3)
	holds(t, x, d, f, probe.File("/to/g", "root", 0, ""))
}

// TestSinkPathItself: P23.2, where there is no directory the first node is the path itself, whatever its name, and no line may follow its stream.
func TestSinkPathItself(t *testing.T) {
	for _, stream := range []string{"C74 1 name\nx\x00", "D74 0 name\nE\n", "D74 0 name\nD75 0 a\nC60 0 b\n\x00E\nE\n"} {
		for _, more := range []string{"C74 1 name\n", "C74 1 other\nx\x00", "D74 0 name\n", "D75 0 a\nE\n", "E\n", "\n", "x\n"} {
			x := probe.Planted(probe.Dir("/in", "root", 61))
			s := rcp.NewSink(x, "root", "/in/to", true)
			made := strings.Count(stream, " 0 ") + strings.Count(stream, " 1 ")
			ends(t, s, stream, made)
			kept := x.Nodes()
			if kept[2].Path != "/in/to" || kept[2].Mode != 60 || len(kept) != 2+made {
				t.Errorf("%q: %+v", stream, kept)
			}
			if line, _, _ := strings.Cut(more, "\n"); line != "" {
				goesOn(t, s, line, made)
				more = more[len(line):]
			}
			fails(t, s, more, api.ErrForm, made)
			holds(t, x, kept[1:]...)
		}
	}
}

// TestSinkWithin: P23.2, a directory that is there takes what comes by its name, one behind the other; the top, too.
func TestSinkWithin(t *testing.T) {
	for _, path := range []string{"/", "/in", "/in/deeper"} {
		base := strings.TrimSuffix(path, "/")
		given := []api.Node{probe.Dir("/in", "ann", 7), probe.Dir("/in/deeper", "ann", 6)}
		x := probe.Planted(given...)
		s := rcp.NewSink(x, "root", path, true)
		ends(t, s, "C74 1 f\nx\x00", 1)
		goesOn(t, s, "D71 0 d\nC60 1 f\ny\x00", 3)
		ends(t, s, "E\n", 3)
		ends(t, s, "C01 0 g\n\x00C74 2 f\nzz\x00D02 0 h\nE\n", 6)
		fails(t, s, "E\n", api.ErrForm, 6)
		want := append(given,
			probe.File(base+"/f", "root", 60, "zz"), probe.Dir(base+"/d", "root", 57), probe.File(base+"/d/f", "root", 48, "y"),
			probe.File(base+"/g", "root", 1, ""), probe.Dir(base+"/h", "root", 2))
		slices.SortFunc(want, func(a, b api.Node) int { return strings.Compare(a.Path, b.Path) })
		holds(t, x, want...)
	}
}

// TestSinkWithinWhen: P23.2, whether the path is a directory is looked at when the first line has come, not ahead of it, nor again.
func TestSinkWithinWhen(t *testing.T) {
	x := tree.New()
	s := rcp.NewSink(x, "root", "/to", true)
	goesOn(t, s, "C74 1 f", 0)
	x.Mkdir("root", "/to", 61)
	goesOn(t, s, "\n", 0)
	ends(t, s, "x\x00", 1)
	holds(t, x, probe.Dir("/to", "root", 61), probe.File("/to/f", "root", 60, "x"))

	x = probe.Planted(probe.Dir("/to", "root", 61))
	s = rcp.NewSink(x, "root", "/to", true)
	x.Remove("root", "/to")
	goesOn(t, s, "C74 1 f\n", 0)
	x.Mkdir("root", "/to", 61)
	fails(t, s, "x\x00", api.ErrIsDir, 0)

	x = probe.Planted(probe.Dir("/to", "root", 61))
	s = rcp.NewSink(x, "root", "/to", true)
	ends(t, s, "C74 1 f\nx\x00", 1)
	x.Remove("root", "/to/f")
	x.Remove("root", "/to")
	goesOn(t, s, "C74 1 f\n", 1)
	fails(t, s, "x\x00", api.ErrNotFound, 1)

	x = tree.New()
	s = rcp.NewSink(x, "root", "/to", true)
	ends(t, s, "D75 0 d\nE\n", 1)
	fails(t, s, "C74 1 f\nx\x00", api.ErrForm, 1)
	holds(t, x, probe.Dir("/to", "root", 61))
}

// TestSinkFileIsNoDirectory: P23.2, a file at the path is written anew; a directory can't be made there.
func TestSinkFileIsNoDirectory(t *testing.T) {
	x := probe.Planted(probe.File("/to", "ann", 63, "old"))
	ends(t, rcp.NewSink(x, "root", "/to", true), "C00 3 f\nnew\x00", 1)
	fails(t, rcp.NewSink(x, "root", "/to", true), "D75 0 d\nE\n", api.ErrExists, 0)
	holds(t, x, probe.File("/to", "ann", 63, "new"))
}

// TestSinkModes: P23.3, each mode of a line counts if modes holds; else 60 for files and 61 for directories.
func TestSinkModes(t *testing.T) {
	for mode := range 64 {
		stream := fmt.Sprintf("D%o%o 0 d\nE\nC%o%o 0 f\n\x00", mode/8, mode%8, mode/8, mode%8)
		x, y := tree.New(), tree.New()
		ends(t, rcp.NewSink(x, "root", "/", true), stream, 2)
		ends(t, rcp.NewSink(y, "root", "/", false), stream, 2)
		holds(t, x, probe.Dir("/d", "root", mode), probe.File("/f", "root", mode, ""))
		holds(t, y, probe.Dir("/d", "root", 61), probe.File("/f", "root", 60, ""))
	}
}

// TestSinkThere: P23.3, a directory that is there stays as it is, and counts; a file keeps its owner and mode.
func TestSinkThere(t *testing.T) {
	for _, modes := range []bool{true, false} {
		x := probe.Planted(probe.Dir("/d", "ann", 56), probe.File("/d/f", "ann", 7, "old"))
		s := rcp.NewSink(x, "root", "/", modes)
		ends(t, s, "D77 0 d\nC77 3 f\nnew\x00D70 0 e\nE\nE\nD00 0 d\nE\n", 4)
		mode := 61
		if modes {
			mode = 56
		}
		holds(t, x, probe.Dir("/d", "ann", 56), probe.Dir("/d/e", "root", mode), probe.File("/d/f", "ann", 7, "new"))
	}
	x := probe.Planted(probe.File("/d", "ann", 63, "file"))
	fails(t, rcp.NewSink(x, "root", "/", true), "D75 0 d\nE\n", api.ErrExists, 0)
	x = probe.Planted(probe.Dir("/f", "ann", 63))
	s := rcp.NewSink(x, "root", "/", true)
	goesOn(t, s, "C74 1 f\nx", 0)
	fails(t, s, "\x00", api.ErrIsDir, 0)
	holds(t, x, probe.Dir("/f", "ann", 63))
}

// TestSinkThereForOthers: P23.3, that a directory is there counts for who may not come to it, too; what is copied into it doesn't go through.
func TestSinkThereForOthers(t *testing.T) {
	nodes := []api.Node{probe.Dir("/shut", "root", 56), probe.Dir("/shut/d", "root", 61), probe.File("/shut/f", "root", 63, "f")}
	x := probe.Planted(nodes...)
	s := rcp.NewSink(x, "ann", "/shut", true)
	ends(t, s, "D75 0 d\nE\n", 1)
	goesOn(t, s, "D75 0 d\nC74 1 new\nx", 2)
	fails(t, s, "\x00", api.ErrMode, 2)
	fails(t, rcp.NewSink(x, "ann", "/shut", true), "D75 0 new\n", api.ErrMode, 0)
	fails(t, rcp.NewSink(x, "ann", "/shut", true), "C74 1 f\nx\x00", api.ErrMode, 0)
	fails(t, rcp.NewSink(x, "ann", "/shut/d", true), "D75 0 new\n", api.ErrMode, 0)
	fails(t, rcp.NewSink(x, "ann", "/shut/f", true), "D75 0 new\n", api.ErrMode, 0)
	holds(t, x, nodes...)
}

// TestSinkErrors: P23.3, each error of layer 19, at once where it is met; what was done stays.
func TestSinkErrors(t *testing.T) {
	nodes := []api.Node{
		probe.Dir("/a", "ann", 61), probe.Dir("/a/b", "ann", 61), probe.Dir("/a/b/c", "ann", 61), probe.Dir("/a/b/c/d", "ann", 61), probe.Dir("/a/b/c/d/e", "ann", 61), probe.Dir("/a/b/c/d/e/f", "ann", 61),
		probe.File("/a/g", "root", 60, "g"), probe.File("/f", "ann", 60, "f"),
	}
	for _, c := range []struct {
		path      string
		file, dir api.Errno
	}{
		{"", api.ErrName, api.ErrName},
		{"f", api.ErrName, api.ErrName},
		{"/a/", api.ErrName, api.ErrName},
		{"//", api.ErrName, api.ErrName},
		{"/a/b/c/d/e/f", api.ErrName, api.ErrName},
		{"/a/b/c/d/e/f/g", api.ErrName, api.ErrName},
		{"/none/x", api.ErrNotFound, api.ErrNotFound},
		{"/f/x", api.ErrNotDir, api.ErrNotDir},
		{"/x", api.ErrMode, api.ErrMode},
		{"/a/g", api.ErrMode, api.ErrExists},
	} {
		x := probe.Planted(nodes...)
		s := rcp.NewSink(x, "ann", c.path, true)
		goesOn(t, s, "C74 1 x\nx", 0)
		fails(t, s, "\x00", c.file, 0)
		s = rcp.NewSink(x, "ann", c.path, true)
		goesOn(t, s, "C74 0 x\n", 0)
		fails(t, s, "\x00", c.file, 0)
		s = rcp.NewSink(x, "ann", c.path, true)
		goesOn(t, s, "D75 0 x", 0)
		fails(t, s, "\n", c.dir, 0)
		fails(t, rcp.NewSink(x, "ann", c.path, true), "C74 1 x\nxy", api.ErrForm, 0)
		fails(t, rcp.NewSink(x, "ann", c.path, true), "D75 0 ..\n", api.ErrForm, 0)
		holds(t, x, nodes...)
	}
	x := probe.Planted(nodes...)
	s := rcp.NewSink(x, "ann", "/a", true)
	fails(t, s, "C74 1 new\nx\x00D55 0 dir\nD55 0 in\nE\nC74 0 f\n\x00E\n", api.ErrMode, 2)
	holds(t, x, append([]api.Node{nodes[0], nodes[1], nodes[2], nodes[3], nodes[4], nodes[5], probe.Dir("/a/dir", "ann", 45), nodes[6], probe.File("/a/new", "ann", 60, "x")}, nodes[7])...)
}

// TestSinkFull: P23.3, ErrFull of a node for which there is no room; what is there may be written anew, and directories that are there gone into.
func TestSinkFull(t *testing.T) {
	var nodes []api.Node
	for n := range 62 {
		nodes = append(nodes, probe.File(fmt.Sprintf("/f%02d", n), "root", 60, "old"))
	}
	for _, stream := range []string{"C74 0 new\n\x00", "D75 0 new\nE\n"} {
		x := probe.Planted(nodes...)
		s := rcp.NewSink(x, "root", "/", true)
		ends(t, s, "D75 0 d\nE\n", 1)
		ends(t, s, "C74 3 f00\nnew\x00D75 0 d\nE\n", 3)
		fails(t, s, stream, api.ErrFull, 3)
		if list := x.Nodes(); len(list) != 64 || string(list[2].Data) != "new" || list[1].Path != "/d" {
			t.Errorf("%+v", list)
		}
	}
}

// TestSinkDeep: P23.2 and P23.3, as deep as paths may be, a directory, or a file, is made; one deeper is ErrName, though its line is right.
func TestSinkDeep(t *testing.T) {
	down := "D75 0 a\nD75 0 b\nD75 0 c\nD75 0 d\nD75 0 e\n"
	for _, c := range []struct{ in, more string }{{"C74 1 f\nx\x00", "C74 1 x\nx\x00"}, {"D75 0 f\nE\n", "D75 0 x\nE\n"}} {
		x := tree.New()
		s := rcp.NewSink(x, "root", "/", true)
		goesOn(t, s, down+c.in, 6)
		ends(t, s, "E\nE\nE\nE\nE\n", 6)
		s = rcp.NewSink(x, "root", "/", true)
		goesOn(t, s, down, 5)
		goesOn(t, s, "D75 0 g\n", 6)
		fails(t, s, c.more, api.ErrName, 6)
	}
}

package rcp_test

import (
	"reflect"
	"strings"
	"testing"

	"gangway/api"
	"gangway/probe"
	"gangway/rcp"
	"gangway/tree"
)

// TestNothingIsKept: P23.6, a piece stays as it is, with its spare room, and may be written over behind Feed, also one that ends in the middle of a line, or of a file.
func TestNothingIsKept(t *testing.T) {
	x := tree.New()
	s := rcp.NewSink(x, "root", "/to", true)
	for i, text := range []string{"D75 0", " dir\nC74 4 fi", "le\nda", "ta\x00C60 3 g\none", "\x00E", "\n"} {
		piece, all := probe.Roomy(text)
		want := api.ErrCopy
		if i == 5 {
			want = api.OK
		}
		if e := s.Feed(piece); e != api.OK || s.Close() != want || string(all) != text+probe.Spare {
			t.Errorf("%q: %v, %v, %q", text, e, s.Close(), all)
		}
		probe.Spoil(piece)
	}
	holds(t, x, probe.Dir("/to", "root", 61), probe.File("/to/file", "root", 60, "data"), probe.File("/to/g", "root", 48, "one"))
}

// TestTexts: P23.6, what a tree has isn't what NewSink was given, nor what Source was.
func TestTexts(t *testing.T) {
	x := probe.Planted(probe.Dir("/home", "ann", 61))
	who, path := strings.Clone("ann"), strings.Clone("/home/to")
	s := rcp.NewSink(x, who, path, true)
	ends(t, s, "D75 0 d\nC74 1 f\nx\x00E\n", 2)
	stream, e := rcp.Source(x, who, path, true)
	spoilText(who)
	spoilText(path)
	if string(stream) != "D75 0 to\nC74 1 f\nx\x00E\n" || e != api.OK {
		t.Errorf("%q, %v", stream, e)
	}
	holds(t, x, probe.Dir("/home", "ann", 61), probe.Dir("/home/to", "ann", 61), probe.File("/home/to/f", "ann", 60, "x"))
}

// TestAnyArguments: P1 and P2, each call ends, without a panic, and answers the same in a second run.
func TestAnyArguments(t *testing.T) {
	answers := func(text string) []any {
		x := probe.Planted(probe.Dir("/E", "E", 63))
		var out []any
		for i := range text {
			who, path := []string{"root", text[:i], text[i:]}[i%3], []string{"", "/", "/E/", "/E"}[(i+len(text))%4]+text[i:]
			s := rcp.NewSink(x, who, path, i%2 == 0)
			out = append(out, s.Close(), s.Feed([]byte(text)), s.Feed([]byte("D77 0 "+text[i:]+"\n")), s.Feed([]byte(text[:i]+"\n")), s.Close(), s.Made())
			s = rcp.NewSink(x, "root", "/E", true)
			out = append(out, s.Feed([]byte("C77 2 E\n"+text+"\x00")), s.Close(), s.Made())
			stream, e := rcp.Source(x, who, path, i%2 == 0)
			all, e2 := rcp.Source(x, "root", "/E", true)
			out = append(out, stream, e, all, e2)
		}
		return append(out, x.Nodes())
	}
	if s, parts := probe.Parting(probe.Texts("/E\n\x00 \xff", 5), answers, reflect.DeepEqual); parts {
		t.Errorf("%q: two runs part", s)
	}
}

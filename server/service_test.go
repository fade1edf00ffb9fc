package server_test

import (
	"slices"
	"strings"
	"testing"

	"gangway/api"
	"gangway/probe"
)

// ran looks which lines were run, and by whom.
func (s *site) ran(t *testing.T, want ...api.Ran) {
	t.Helper()
	if got := s.Log(); !slices.Equal(got, want) {
		t.Errorf("%+v, not %+v", got, want)
	}
}

// TestRun: P24.3, a command is run as the account, once its line has come; what it puts out, and its code.
func TestRun(t *testing.T) {
	for _, symbols := range kinds {
		for _, c := range []struct {
			command, out, err string
			code              int
			exit              string
		}{
			{"whoami", "ann\n", "", 0, "0"}, {"echo a b", "a b\n", "", 0, "0"}, {"exit 3", "", "", 3, "3"}, {"exit 255", "", "", 255, "255"}, {"exit 256", "", "exit: 1\n", 2, "2"},
			{"cat /none", "", "cat: 110\n", 1, "1"}, {"cat /b", "", "cat: 114\n", 1, "1"}, {"what", "", "what: 110\n", 127, "127"}, {"ls /users", "ann\nbob\n", "", 0, "0"},
			{"put /users/ann/f x", "", "", 0, "0"}, {"put /users/bob/f x", "", "put: 114\n", 1, "1"}, {"cat /f", "of ann", "", 0, "0"},
		} {
			s := newSite(t, symbols, probe.File("/b", "bob", 60&^4, "of bob"), probe.File("/f", "ann", 48, "of ann"))
			g := s.comes(t, "ann@LAND")
			g.types(t, "run ann "+c.command+"\nrun ann whoami\n") // what stands behind its line plays no part
			g.puts(t, c.out, c.err, c.exit)
			g.types(t, "whoami\n")
			g.ends(t)
			g.puts(t, c.out, c.err, c.exit)
			g.did(t, api.Served{Service: api.SvcRun, Account: "ann", Lines: []string{c.command}})
			s.ran(t, api.Ran{Who: "ann", Line: c.command, Code: c.code})
		}
	}
}

// TestRunAsAnother: P24.3, it is the account that runs, not the principal that came.
func TestRunAsAnother(t *testing.T) {
	s := newSite(t, true, probe.File("/users/ann/.k5login", "ann", 60, "bob@LAND"))
	g := s.comes(t, "bob@LAND")
	g.types(t, "run ann put /users/ann/f x\n")
	g.puts(t, "", "", "0")
	if n, e := s.files.Stat(api.Root, "/users/ann/f"); e != api.OK || n.Owner != "ann" || n.Mode != 60 || string(n.Data) != "x" {
		t.Errorf("%+v, %v", n, e)
	}
	s.ran(t, api.Ran{Who: "ann", Line: "put /users/ann/f x"})
	g.did(t, api.Served{Service: api.SvcRun, Account: "ann", Lines: []string{"put /users/ann/f x"}})
}

// TestLogin: P24.3, what is typed is shown, lines are run, and what they put out, also of errors, comes behind them; up to exit, or the end.
func TestLogin(t *testing.T) {
	for _, c := range []struct {
		typed, shown string
		lines        []string
		exit         string // with which it has ended; none: it goes on
		end          string // with which it ends at the end of ChanIn
	}{
		{"", "", nil, "", "0"},
		{"who", "who", nil, "", "0"},
		{"whoami\r", "whoami\r\nann\n", []string{"whoami"}, "", "0"},
		{"whoami\n", "whoami\r\nann\n", []string{"whoami"}, "", "0"},
		{"whoami\r\nwhoami\r", "whoami\r\nann\nwhoami\r\nann\n", []string{"whoami", "whoami"}, "", "0"},
		{"\r\r", "\r\n\r\n", []string{"", ""}, "", "0"},
		{"cat /x\r", "cat /x\r\ncat: 110\n", []string{"cat /x"}, "", "1"},
		{"what\rwho", "what\r\nwhat: 110\nwho", []string{"what"}, "", "127"},
		{"what\r\r", "what\r\nwhat: 110\n\r\n", []string{"what", ""}, "", "0"},
		{"lsx\x7f /users\r", "lsx\b \b /users\r\nann\nbob\n", []string{"ls /users"}, "", "0"},
		{"exit 9\x03whoami\r", "exit 9^C\r\nwhoami\r\nann\n", []string{"whoami"}, "", "0"},
		{"exit 3\rwhoami\r", "exit 3\r\n", []string{"exit 3"}, "3", ""},
		{"whoami\rcat /x\rexit 3\r", "whoami\r\nann\ncat /x\r\ncat: 110\nexit 3\r\n", []string{"whoami", "cat /x", "exit 3"}, "3", ""},
		{"  exit  0 \r", "  exit  0 \r\n", []string{"  exit  0 "}, "0", ""},
		{"exit\rexit 256\rexit 3 4\rexit x\r", "exit\r\nexit: 1\nexit 256\r\nexit: 1\nexit 3 4\r\nexit: 1\nexit x\r\nexit: 1\n", []string{"exit", "exit 256", "exit 3 4", "exit x"}, "", "2"},
		{"exits 3\rEXIT 3\recho exit\r", "exits 3\r\nexits: 110\nEXIT 3\r\nEXIT: 110\necho exit\r\nexit\n", []string{"exits 3", "EXIT 3", "echo exit"}, "", "0"},
		{"\x00\x1b\xffexit 8\r", "exit 8\r\n", []string{"exit 8"}, "8", ""},
		{strings.Repeat("x", 81) + "\r", strings.Repeat("x", 80) + "\a\r\n" + strings.Repeat("x", 80) + ": 110\n", []string{strings.Repeat("x", 80)}, "", "127"},
	} {
		for size := 1; size < 200; size += size + 1 {
			s := newSite(t, true)
			g := s.comes(t, "ann@LAND")
			for piece := range pieces("login ann -\n"+c.typed, size) {
				g.types(t, piece)
			}
			did := api.Served{Service: api.SvcLogin, Account: "ann", Lines: c.lines}
			g.puts(t, c.shown, "", c.exit)
			g.did(t, did)
			g.types(t, "") // nothing new has come
			g.puts(t, c.shown, "", c.exit)
			g.ends(t)
			g.puts(t, c.shown, "", c.exit+c.end)
			g.did(t, did)
			if log := s.Log(); len(log) != len(c.lines) || slices.ContainsFunc(log, func(r api.Ran) bool { return r.Who != "ann" }) {
				t.Errorf("%+v", log)
			}
		}
	}
}

// TestLoginEndsAtOnce: P24.3, the end of ChanIn may come in one with what was typed; nothing of that is lost.
func TestLoginEndsAtOnce(t *testing.T) {
	g := newSite(t, true).comes(t, "ann@LAND")
	must(t, 0, g.mux.Write(api.ChanIn, []byte("login ann -\nwhoami\rexit 300\rwho")))
	g.ends(t)
	g.puts(t, "whoami\r\nann\nexit 300\r\nexit: 1\nwho", "", "2")
	g = newSite(t, true).comes(t, "ann@LAND")
	must(t, 0, g.mux.Write(api.ChanIn, []byte("login ann -\n")))
	g.ends(t)
	g.puts(t, "", "", "0")
}

// TestCopy: P24.3, what comes behind the line goes to a sink of the account; at the end, or at its error, it is told what became of it.
func TestCopy(t *testing.T) {
	some := "D70 0 d\nC74 2 f\nab\x00D11 0 e\nE\nE\n"
	for _, c := range []struct {
		line, stream string
		exit, end    string // at an error; at the end
		want         []api.Node
	}{
		{"/users/ann/to modes", some, "", "0", []api.Node{probe.Dir("/users/ann/to", "ann", 56), probe.Dir("/users/ann/to/e", "ann", 9), probe.File("/users/ann/to/f", "ann", 60, "ab")}},
		{"/users/ann/to plain", some, "", "0", []api.Node{probe.Dir("/users/ann/to", "ann", 61), probe.Dir("/users/ann/to/e", "ann", 61), probe.File("/users/ann/to/f", "ann", 60, "ab")}},
		{"/users/ann modes", "C04 0 f\n\x00", "", "0", []api.Node{probe.File("/users/ann/f", "ann", 4, "")}},
		{"/users/ann plain", "C04 0 f\n\x00", "", "0", []api.Node{probe.File("/users/ann/f", "ann", 60, "")}},
		{"/users/ann/f plain", "C04 3 g\n\n\xff\x00\x00", "", "0", []api.Node{probe.File("/users/ann/f", "ann", 60, "\n\xff\x00")}},
		{"/users/bob/f plain", "C04 0 f\n\x00C04 0 f\n\x00", "error 114", "", nil},
		{"/users/none/f plain", "C04 0 f\n\x00", "error 110", "", nil},
		{"/users/ann/f plain", "C04 0 f\n\x01more", "error 21", "", nil},
		{"/users/ann/f plain", "exit 3\r\n", "error 21", "", nil},
		{"/users/ann/f plain", strings.Repeat("C", 81), "error 21", "", nil},
		{"/users/ann/f plain", "", "", "error 140", nil},
		{"/users/ann/f plain", "C04 2 f\na", "", "error 140", nil},
		{"/users/ann/d plain", "D04 0 d\n", "", "error 140", []api.Node{probe.Dir("/users/ann/d", "ann", 61)}},
		{"/users/ann/d plain", "D04 0 d\nE\nE\n", "error 21", "", []api.Node{probe.Dir("/users/ann/d", "ann", 61)}},
	} {
		for size := 1; size < 200; size += size + 1 {
			s := newSite(t, true)
			g := s.comes(t, "ann@LAND")
			for piece := range pieces("copy ann "+c.line+"\n"+c.stream, size) {
				g.types(t, piece)
			}
			g.puts(t, "", "", c.exit)
			did := api.Served{Service: api.SvcCopy, Account: "ann"}
			g.did(t, did)
			g.ends(t)
			g.puts(t, "", "", c.exit+c.end)
			g.did(t, did)
			if got, want := s.files.Nodes(), planted(c.want...).Nodes(); !probe.SameNodes(got, want) {
				t.Errorf("%q, %q: %+v, not %+v", c.line, c.stream, got, want)
			}
			s.ran(t)
		}
	}
}

// TestCopyEndsAtOnce: P24.3, the end of ChanIn may come in one with the stream.
func TestCopyEndsAtOnce(t *testing.T) {
	s := newSite(t, false)
	g := s.comes(t, "ann@LAND")
	must(t, 0, g.mux.Write(api.ChanIn, []byte("copy ann /users/ann/f plain\nC04 2 g\nab\x00")))
	g.ends(t)
	g.puts(t, "", "", "0")
	if data, e := s.files.Read(api.Root, "/users/ann/f"); e != api.OK || string(data) != "ab" {
		t.Errorf("%q, %v", data, e)
	}
}

// TestCopyMuch: P24.3, more than goes over a channel at once.
func TestCopyMuch(t *testing.T) {
	s := newSite(t, true)
	g := s.comes(t, "ann@LAND")
	stream := "D70 0 d\n"
	for _, c := range "abcdefghij" {
		stream += "C74 1000 " + string(c) + "\n" + strings.Repeat(string(c), 1000) + "\x00"
	}
	g.types(t, "copy ann /users/ann/d modes\n")
	g.types(t, stream+"E\n")
	g.ends(t)
	g.puts(t, "", "", "0")
	if names, e := s.files.List("ann", "/users/ann/d"); e != api.OK || len(names) != 10 {
		t.Errorf("%q, %v", names, e)
	}
}

// TestLost: P24.3, what a channel doesn't take at once is lost, each of what is written by itself: what a byte shows, what a line puts out.
func TestLost(t *testing.T) {
	big := strings.Repeat("0123456789", 100)
	s := newSite(t, true, probe.File("/f", "ann", 60, big))
	g := s.comes(t, "ann@LAND")
	g.types(t, "login ann -\n")
	typed, want := "", ""
	for _, line := range []string{"cat /f", "cat /f", "cat /f", "cat /f", "cat /f", "echo " + strings.Repeat("x", 70), "cat /f", "cat /none", "wh", strings.Repeat("y", 20), "whoami"} {
		put := map[string]string{"cat /f": big, "cat /none": "cat: 110\n", "wh": "wh: 110\n", "whoami": "ann\n", strings.Repeat("y", 20): strings.Repeat("y", 20) + ": 110\n"}[line]
		if put == "" {
			put = line[5:] + "\n"
		}
		typed += line + "\r"
		for _, shown := range append(strings.Split(line, ""), "\r\n", put) {
			if len(want)+len(shown) <= 4096 {
				want += shown
			}
		}
	}
	if len(typed) > 500 || len(want) != 4096 {
		t.Fatalf("%d bytes typed, %d come", len(typed), len(want))
	}
	g.types(t, typed)
	g.puts(t, want, "", "")
	if len(s.Log()) != 11 {
		t.Errorf("%+v", s.Log())
	}
	g.types(t, "whoami\rexit 3\r")
	g.puts(t, want+"whoami\r\nann\nexit 3\r\n", "", "3")
}

// TestDone: P24.3, what comes for one that is done plays no part, but is read: as much of it may come as there is.
func TestDone(t *testing.T) {
	for _, first := range []string{"run ann exit 3\n", "login ann -\nexit 3\r", "nonsense\n", "copy ann /users/ann/f plain\nnonsense\n"} {
		s := newSite(t, true)
		g := s.comes(t, "ann@LAND")
		g.types(t, first)
		got, log, nodes := g.got, s.Log(), s.files.Nodes()
		did := s.Served()[0]
		g.types(t, strings.Repeat("run ann whoami\n\rexit 4\r", 300))
		g.ends(t)
		if g.got != got || got[api.ChanExit] == "" || !slices.Equal(s.Log(), log) || !probe.SameNodes(s.files.Nodes(), nodes) {
			t.Errorf("%q, %+v", g.got, s.Log())
		}
		g.did(t, did)
		s.Tick(begun)
		did.Over = true
		g.did(t, did)
	}
}

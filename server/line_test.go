package server_test

import (
	"strings"
	"testing"

	"gangway/api"
	"gangway/probe"
)

// failed looks whether a session has done nothing but fail with an error.
func (g *guest) failed(t *testing.T, why string) {
	t.Helper()
	g.puts(t, "", "", "error "+why)
	g.did(t, api.Served{})
}

// TestLine: P24.3, lines that are right, and what is done.
func TestLine(t *testing.T) {
	for _, c := range []struct {
		line, out, err, exit string
		did                  api.Served
	}{
		{"run ann whoami", "ann\n", "", "0", api.Served{Service: api.SvcRun, Account: "ann", Lines: []string{"whoami"}}},
		{"run ann echo a  b ", "a b\n", "", "0", api.Served{Service: api.SvcRun, Account: "ann", Lines: []string{"echo a  b "}}},
		{"run ann  whoami", "ann\n", "", "0", api.Served{Service: api.SvcRun, Account: "ann", Lines: []string{" whoami"}}},
		{"run ann -", "", "-: 110\n", "127", api.Served{Service: api.SvcRun, Account: "ann", Lines: []string{"-"}}},
		{"run ann  ", "", "", "0", api.Served{Service: api.SvcRun, Account: "ann", Lines: []string{" "}}},
		{"run ann ", "", "", "0", api.Served{Service: api.SvcRun, Account: "ann", Lines: []string{""}}},
		{"run ann exit 3\r", "", "exit: 1\n", "2", api.Served{Service: api.SvcRun, Account: "ann", Lines: []string{"exit 3\r"}}},
		{"run ann run ann whoami", "", "run: 110\n", "127", api.Served{Service: api.SvcRun, Account: "ann", Lines: []string{"run ann whoami"}}},
		{"run ann echo \x00\xff", "\x00\xff\n", "", "0", api.Served{Service: api.SvcRun, Account: "ann", Lines: []string{"echo \x00\xff"}}},
		{"login ann -", "", "", "", api.Served{Service: api.SvcLogin, Account: "ann"}},
		{"copy ann / plain", "", "", "", api.Served{Service: api.SvcCopy, Account: "ann"}},
		{"copy ann /a/b/c/d/e/f modes", "", "", "", api.Served{Service: api.SvcCopy, Account: "ann"}},
		{"copy ann /no.at-all_x modes", "", "", "", api.Served{Service: api.SvcCopy, Account: "ann"}},
	} {
		g := newSite(t, true).comes(t, "ann@LAND")
		g.types(t, c.line)
		g.puts(t, "", "", "")
		g.did(t, api.Served{})
		g.types(t, "\n")
		g.puts(t, c.out, c.err, c.exit)
		g.did(t, c.did)
	}
}

// TestWrongLine: P24.3, a line that isn't right fails with ErrForm, whoever says it; nothing is run.
func TestWrongLine(t *testing.T) {
	for _, line := range []string{
		"", " ", "  ", "   ", "run", "run ", "run ann", "run  ann whoami", " run ann whoami", "run\tann\twhoami", "Run ann whoami", "RUN ann whoami", "rum ann whoami", "runn ann whoami",
		"whoami", "exit 3", "telnet ann -", "ann run whoami", "\x00run ann whoami", "run\x00 ann whoami",
		"login", "login ann", "login ann ", "login ann --", "login ann - ", "login ann  -", "login ann - -", "login ann -\r", "login  -", "login ann x", "logi ann -", "logins ann -",
		"copy", "copy ann", "copy ann ", "copy ann /x", "copy ann /x ", "copy ann /x Modes", "copy ann /x mode", "copy ann /x modes ", "copy ann /x  modes", "copy ann  /x modes", "copy ann /x modes plain",
		"copy ann /x plain\r", "copy ann /x plain\x00", "copy ann x modes", "copy ann /x/ modes", "copy ann // modes", "copy ann /. plain", "copy ann /x/../y plain", "copy ann /1234567890123 modes",
		"copy ann /a/b/c/d/e/f/g modes", "copy ann modes", "copy ann modes /x", "copy ann  modes", "copies ann /x modes", "cop ann /x modes",
		"run ANN whoami", "run annannann whoami", "run 1ann whoami", "run ann@LAND whoami", "run ann/x whoami", "run ../ann whoami", "run . whoami", "login ANN -", "login - ann", "copy Ann /x modes", "run ann\x00 whoami",
	} {
		for _, client := range []string{"ann@LAND", "bob@LAND"} {
			g := newSite(t, true).comes(t, client)
			g.types(t, line)
			g.puts(t, "", "", "")
			g.types(t, "\nwhoami\n")
			g.failed(t, "21")
			if len(g.Log()) != 0 {
				t.Errorf("%q: %+v", line, g.Log())
			}
		}
	}
}

// TestLongLine: P24.3, a line of 80 bytes is right; the 81st that isn't a line feed fails as soon as it has come, in whatever pieces.
func TestLongLine(t *testing.T) {
	for _, start := range []string{"run ann echo ", "login ann ", ""} {
		line := start + strings.Repeat("x", 81-len(start))
		for _, size := range []int{1, 7, 40, 80, 81, 82, 200} {
			for _, tail := range []string{"", "x", "\n", "x\n"} {
				g := newSite(t, true).comes(t, "ann@LAND")
				for piece := range pieces(line[:80], size) {
					g.types(t, piece)
				}
				g.puts(t, "", "", "")
				g.types(t, line[80:]+tail)
				g.failed(t, "21")
				g = newSite(t, true).comes(t, "ann@LAND")
				for piece := range pieces(line+tail, size) {
					g.types(t, piece)
				}
				g.failed(t, "21")
			}
		}
	}
	for _, size := range []int{1, 7, 80, 81, 82, 200} {
		g := newSite(t, true).comes(t, "ann@LAND")
		word := strings.Repeat("x", 67)
		for piece := range pieces("run ann echo "+word+"\nmore", size) {
			g.types(t, piece)
		}
		g.puts(t, word+"\n", "", "0")
	}
}

// pieces gives a text in pieces of a size.
func pieces(text string, size int) func(func(string) bool) {
	return func(yield func(string) bool) {
		for len(text) > size && yield(text[:size]) {
			text = text[size:]
		}
		yield(text)
	}
}

// TestLineInPieces: P24.3, the first line may come in any pieces, also with what stands behind it.
func TestLineInPieces(t *testing.T) {
	text := "login ann -\nwhoami\rexit 4\r"
	shown := "whoami\r\nann\nexit 4\r\n"
	for i := range len(text) + 1 {
		g := newSite(t, true).comes(t, "ann@LAND")
		g.types(t, text[:i])
		g.types(t, text[i:])
		g.puts(t, shown, "", "4")
		g.did(t, api.Served{Service: api.SvcLogin, Account: "ann", Lines: []string{"whoami", "exit 4"}})
	}
}

// TestNoLine: P24.3, if ChanIn ends ahead of the line feed there is no line: the session does nothing, and is over when it is idle.
func TestNoLine(t *testing.T) {
	for _, line := range []string{"", "run ann whoami", "nonsense", strings.Repeat("x", 80)} {
		g := newSite(t, true).comes(t, "ann@LAND")
		g.types(t, line)
		g.ends(t)
		g.puts(t, "", "", "")
		for range 39 {
			g.Tick(begun)
		}
		g.did(t, api.Served{})
		g.Tick(begun)
		g.did(t, api.Served{Over: true})
		if len(g.Log()) != 0 {
			t.Errorf("%+v", g.Log())
		}
	}
}

// TestAllowed: P24.3, who may come as an account: who is named by its .k5login, as root reads that, or, if it names nobody, who has the account by the rules.
func TestAllowed(t *testing.T) {
	in := func(owner string, mode int, text string) []api.Node {
		return []api.Node{probe.File("/users/ann/.k5login", owner, mode, text)}
	}
	for _, c := range []struct {
		files    []api.Node
		ann, bob bool
	}{
		{nil, true, false}, {in("ann", 60, ""), true, false}, {in("ann", 60, "\n\n\n"), true, false},
		{in("ann", 60, "bob@LAND"), false, true}, {in("ann", 60, "bob@LAND\n"), false, true}, {in("ann", 60, "\n\nbob@LAND\n\n"), false, true},
		{in("ann", 0, "bob@LAND\n"), false, true}, {in("bob", 0, "bob@LAND\n"), false, true}, {in("root", 7, "bob@LAND\nann@LAND"), true, true},
		{in("ann", 60, "bob@SEA\n"), false, false}, {in("ann", 60, "bob@LAND\r\n"), false, false}, {in("ann", 60, " bob@LAND\n"), false, false}, {in("ann", 60, " "), false, false},
		{in("ann", 60, "ann@LAND bob@LAND\n"), false, false}, {in("ann", 60, "nobody\nbob@LAND"), false, true}, {in("ann", 60, "ann\nbob\n"), false, false},
		{[]api.Node{probe.Dir("/users/ann/.k5login", "ann", 63)}, true, false},
		{[]api.Node{probe.Dir("/users/ann/.k5login", "ann", 63), probe.File("/users/ann/.k5login/x", "ann", 63, "bob@LAND")}, true, false},
		{[]api.Node{probe.File("/.k5login", "root", 63, "bob@LAND"), probe.File("/users/.k5login", "root", 63, "bob@LAND"), probe.File("/users/bob/.k5login", "bob", 63, "ann@LAND")}, true, false},
	} {
		for client, may := range map[string]bool{"ann@LAND": c.ann, "bob@LAND": c.bob, "ann@SEA": false, "ann/x@LAND": false} {
			for _, line := range []string{"run ann exit 5\n", "login ann -\nexit 5\r", "copy ann /users/ann/c plain\nC74 0 c\n\x00"} {
				s := newSite(t, true, c.files...)
				nodes := s.files.Nodes()
				g := s.comes(t, client)
				g.types(t, line)
				if !may {
					g.failed(t, "90")
					if len(s.Log()) != 0 || !probe.SameNodes(s.files.Nodes(), nodes) {
						t.Errorf("%+v, %+v", s.Log(), s.files.Nodes())
					}
					continue
				}
				if g.got[api.ChanExit] != map[byte]string{'r': "5", 'l': "5", 'c': ""}[line[0]] || len(s.Log()) == 0 && len(s.files.Nodes()) == len(nodes) {
					t.Errorf("%s, %q: %q", client, line, g.got)
				}
			}
		}
	}
}

// TestAllowedThen: P24.3, it counts what the .k5login says when the line has come, not when the client came; of an account without a directory the rules alone count.
func TestAllowedThen(t *testing.T) {
	s := newSite(t, true)
	early, g := s.comes(t, "bob@LAND"), s.comes(t, "ann@LAND")
	g.types(t, "run ann put /users/ann/.k5login bob@LAND\n")
	g.puts(t, "", "", "0")
	early.types(t, "run ann whoami\n")
	early.puts(t, "ann\n", "", "0")
	late := s.comes(t, "ann@LAND")
	late.types(t, "run ann whoami\n")
	late.failed(t, "90")
	carl := s.comes(t, "carl@LAND")
	carl.types(t, "run carl ls /users\n")
	carl.puts(t, "ann\nbob\n", "", "0")
	root := s.comes(t, "root@LAND")
	root.types(t, "run root whoami\n")
	root.puts(t, "root\n", "", "0")
	no := s.comes(t, "carl@LAND")
	no.types(t, "run root whoami\n")
	no.failed(t, "90")
}

// TestNoUsers: P24.3, where /users isn't there, or is a file, the rules alone count.
func TestNoUsers(t *testing.T) {
	for _, change := range []func(s *site){
		func(s *site) {},
		func(s *site) { must(t, 0, s.files.Write(api.Root, "/users", []byte("bob@LAND"), 63)) },
	} {
		s := newSite(t, true)
		for _, path := range []string{"/users/ann", "/users/bob", "/users"} {
			must(t, path, s.files.Remove(api.Root, path))
		}
		change(s)
		ann, bob := s.comes(t, "ann@LAND"), s.comes(t, "bob@LAND")
		ann.types(t, "run ann whoami\n")
		ann.puts(t, "ann\n", "", "0")
		bob.types(t, "run ann whoami\n")
		bob.failed(t, "90")
	}
}

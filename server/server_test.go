package server_test

import (
	"slices"
	"strings"
	"testing"

	"gangway/api"
	"gangway/probe"
	"gangway/seal"
	"gangway/server"
	"gangway/tree"
)

// TestExample: the chapter's first example.
func TestExample(t *testing.T) {
	for _, symbols := range kinds {
		g := newSite(t, symbols).comes(t, "ann@LAND")
		g.types(t, "run ann whoami\n")
		g.puts(t, "ann\n", "", "0")
	}
}

// TestNew: P24.1, nobody came to a new server, of any right name, and with any right rules.
func TestNew(t *testing.T) {
	for _, n := range probe.Names() {
		for _, rules := range []string{"", "\n\n", "DEFAULT", "DEFAULT\n", "RULE 2 host/* host/ -\nDEFAULT\n", strings.Repeat("DEFAULT\n", 16)} {
			for _, now := range []int64{-1 << 63, -1, 0, 1000, 1<<63 - 1} {
				x, e := server.New(seal.New(true, api.Key{}), api.Entry{Name: n}, tree.New(), rules, now)
				if e != api.OK || x == nil || x.Open() != 0 || len(x.Log()) != 0 || len(x.Served()) != 0 || len(x.Tick(now)) != 0 {
					t.Fatalf("%q, %q: %v", n, rules, e)
				}
			}
		}
	}
}

// TestNewErrors: P24.1, the name's error comes ahead of the rules'.
func TestNewErrors(t *testing.T) {
	refuses := func(name, rules string, why api.Errno) {
		t.Helper()
		x, e := server.New(seal.New(false, api.Key{}), api.Entry{Name: name, Key: api.Key{1}}, tree.New(), rules, begun)
		if x != nil || e != why {
			t.Errorf("%q, %q: %v, not %v", name, rules, e, why)
		}
	}
	for _, n := range probe.NotNames() {
		for _, rules := range []string{"", "DEFAULT\n", "default", strings.Repeat("x", 81)} {
			refuses(n, rules, api.ErrName)
		}
	}
	for _, rules := range []string{"default", "DEFAULT \n", "DEFAULT\nRULE 4 * a b\n", "\nRULE 1 * a\n"} {
		refuses("host/s1@LAND", rules, api.ErrForm)
	}
	for _, rules := range []string{strings.Repeat("x", 81), strings.Repeat("DEFAULT\n", 17)} {
		refuses("host/s1@LAND", rules, api.ErrLong)
	}
}

// TestRules: P24.1 and P24.3, the rules are of the Realm of the server's name, and those that it was given.
func TestRules(t *testing.T) {
	own := entry()
	own.Name = "host/s1@SEA"
	for _, c := range []struct{ rules, client, exit string }{
		{"DEFAULT", "ann@SEA", "0"}, {"DEFAULT", "ann@LAND", "error 90"}, {"DEFAULT", "ann/x@SEA", "error 90"}, {"", "ann@SEA", "error 90"},
		{"RULE 2 */x /x -", "ann/x@SEA", "0"}, {"RULE 2 */x /x -", "ann/x@LAND", "error 90"}, {"RULE 2 */x /x -", "ann@SEA", "error 90"},
		{"RULE 1 b* bob ann\nDEFAULT\n", "bob@SEA", "0"}, {"RULE 1 b* bob ann\nDEFAULT\n", "ann@SEA", "0"},
	} {
		g := newSiteOf(t, true, own, c.rules).comes(t, c.client)
		g.types(t, "run ann echo\n")
		g.puts(t, map[bool]string{true: "\n"}[c.exit == "0"], "", c.exit)
	}
}

// TestServed: P24.1, of each session, in the order in which they came, what it has done, and how many are open; the log is the shell's.
func TestServed(t *testing.T) {
	for _, symbols := range kinds {
		s := newSite(t, symbols)
		ann, bob := s.comes(t, "ann@LAND"), s.comes(t, "bob@LAND")
		third := s.comes(t, "ann@LAND")
		serves := func(want ...api.Served) {
			t.Helper()
			open := 0
			for i, g := range []*guest{ann, bob, third} {
				want[i].Key, want[i].Client, want[i].Nonce = g.key, g.call.Auth.Client, g.call.Auth.Nonce
				if !want[i].Over {
					open++
				}
			}
			if got := s.Served(); !slices.EqualFunc(got, want, sameServed) || s.Open() != open {
				t.Errorf("%+v, %d open, not %+v", got, s.Open(), want)
			}
		}
		serves(api.Served{}, api.Served{}, api.Served{})
		bob.types(t, "login bob -\nls /users\r")
		ann.types(t, "run ann cat /f\n")
		serves(api.Served{Service: api.SvcRun, Account: "ann", Lines: []string{"cat /f"}}, api.Served{Service: api.SvcLogin, Account: "bob", Lines: []string{"ls /users"}}, api.Served{})
		s.Tick(begun)
		serves(api.Served{Service: api.SvcRun, Account: "ann", Lines: []string{"cat /f"}, Over: true}, api.Served{Service: api.SvcLogin, Account: "bob", Lines: []string{"ls /users"}}, api.Served{})
		third.types(t, "copy ann /users/ann/x plain\n")
		bob.types(t, "whoami\rexit 300\r")
		login := api.Served{Service: api.SvcLogin, Account: "bob", Lines: []string{"ls /users", "whoami", "exit 300"}}
		serves(api.Served{Service: api.SvcRun, Account: "ann", Lines: []string{"cat /f"}, Over: true}, login, api.Served{Service: api.SvcCopy, Account: "ann"})
		s.Restart(begun)
		login.Over = true
		serves(api.Served{Service: api.SvcRun, Account: "ann", Lines: []string{"cat /f"}, Over: true}, login, api.Served{Service: api.SvcCopy, Account: "ann", Over: true})
		want := []api.Ran{{Who: "bob", Line: "ls /users"}, {Who: "ann", Line: "cat /f", Code: 1}, {Who: "bob", Line: "whoami"}, {Who: "bob", Line: "exit 300", Code: 2}}
		if got := s.Log(); !slices.Equal(got, want) {
			t.Errorf("%+v", got)
		}
	}
}

// TestRestart: P24.5, behind a restart no session goes on, and none that may have come ahead of it comes; the tree, the log, and what was done stay.
func TestRestart(t *testing.T) {
	for _, symbols := range kinds {
		s := newSite(t, symbols)
		g, other := s.comes(t, "ann@LAND"), s.comes(t, "bob@LAND")
		g.types(t, "login ann -\nput /users/ann/f data\r")
		late := g.says(t)
		if len(late) == 0 {
			must(t, 0, g.mux.Write(api.ChanIn, []byte("whoami\r")))
			late = g.says(t)
		}
		nodes, log := s.files.Nodes(), s.Log()
		s.now = begun + 7
		s.Restart(s.now)
		if s.Open() != 0 || len(s.Tick(s.now)) != 0 || !probe.SameNodes(s.files.Nodes(), nodes) || !slices.Equal(s.Log(), log) || len(log) != 1 {
			t.Errorf("%d open, %+v, %+v", s.Open(), s.Log(), s.files.Nodes())
		}
		g.did(t, api.Served{Service: api.SvcLogin, Account: "ann", Lines: []string{"put /users/ann/f data"}, Over: true})
		other.did(t, api.Served{Over: true})
		s.refuses(t, late[0], "mail", api.ErrMatch, false)
		s.refuses(t, g.asked, "ap", api.ErrQuarantine, true)
		s.now = begun + 17 // it comes up to the time of the restart and Skew more
		s.refuses(t, s.asks(t, "ann@LAND", begun+1000, 77, 3).asked, "ap", api.ErrQuarantine, true)
		s.now++
		again := s.comes(t, "ann@LAND")
		again.types(t, "run ann cat /users/ann/f\n")
		again.puts(t, "data", "", "0")
		if len(s.Served()) != 3 || s.Open() != 1 {
			t.Errorf("%+v", s.Served())
		}
	}
}

// TestBeginning: P24.1, a server that has just begun is closed for no time.
func TestBeginning(t *testing.T) {
	s := newSite(t, false)
	s.now = begun - 20
	s.comes(t, "ann@LAND")
	s.Restart(begun)
	s.now = begun + 10
	s.refuses(t, s.asks(t, "ann@LAND", begun+1000, 77, 3).asked, "ap", api.ErrQuarantine, true)
}

package client_test

import (
	"strings"
	"testing"

	"gangway/api"
	"gangway/probe"
	"gangway/rcp"
)

// rights gives wants that are right, at the edges of it.
func rights() []api.Want {
	every := ""
	for c := range 95 {
		every += string(rune(32 + c))
	}
	copied := api.Want{Service: api.SvcCopy, Server: blue, Account: "ann", Path: "/f", To: "/to"}
	list := []api.Want{
		run(blue, "whoami"), run(blue, ""), run(blue, " "), run(blue, strings.Repeat("x", 60)), run(blue, "\x00\r\xff\t"), run(probe.Longest, "ls"),
		{Service: api.SvcRun, Server: "a@R", Account: "a", Lines: []string{"x"}, Path: "no path", To: "none", Modes: true},
		{Service: api.SvcLogin, Server: blue, Account: "ann"}, {Service: api.SvcTelnet, Server: blue, Account: "ann"},
		{Service: api.SvcLogin, Server: blue, Account: "abcdefg9", Lines: []string{"", every[:80], every[15:], "exit 3"}},
		{Service: api.SvcTelnet, Server: blue, Account: "ann", Lines: []string{"ls /"}, Path: "no path"},
		copied,
		{Service: api.SvcCopy, Server: blue, Account: "ann", Path: "/d", To: "/", Modes: true, Lines: []string{"a line\n", "", "", "", "fifth"}},
		{Service: api.SvcCopy, Server: blue, Account: "ann", Path: "/d/g", To: strings.Repeat("/abcdefghijkl", 6)},
	}
	for _, name := range probe.Names() {
		w := copied
		w.Server = name
		list = append(list, w)
	}
	return list
}

// wrongs gives wants that aren't right.
func wrongs() []api.Want {
	long, tilde := strings.Repeat("x", 81), "\x7f"
	list := []api.Want{
		{}, {Service: 1}, {Service: 1, Server: blue, Account: "ann"}, run(blue, strings.Repeat("x", 61)), run(blue, "a\n"), run(blue, "\n"), run("blue", "ls"), run("", "ls"),
		{Service: 1, Server: blue, Account: "ann", Lines: []string{"a", "b"}}, {Service: 4, Server: blue, Account: "ann"},
		{Service: 4, Server: blue, Account: "ann", Path: "/f"}, {Service: 4, Server: blue, Account: "ann", To: "/f"}, {Service: 4, Server: blue, Account: "ann", Path: "f", To: "/f"},
		{Service: 4, Server: blue, Account: "ann", Path: "/f", To: "/f/"}, {Service: 4, Server: blue, Account: "ann", Path: "/f", To: "/abcdefghijklm"},
		{Service: 4, Server: blue, Account: "ann", Path: "/f", To: "/a/a/a/a/a/a/a"}, {Service: 4, Server: blue, Account: "ann", Path: "/../f", To: "/f"},
	}
	for _, service := range []int{-1, 0, 5, 1 << 40} {
		list = append(list, api.Want{Service: service, Server: blue, Account: "ann", Lines: []string{"ls"}, Path: "/f", To: "/f"})
	}
	for _, service := range []int{2, 3} {
		for _, lines := range [][]string{{"", "", "", "", ""}, {long}, {"", "", "", long}, {"a\n"}, {"a\x1f"}, {tilde}, {"ok", "ä"}, {"\xff"}, {"a\r"}, {"\t"}, {"\x00"}} {
			list = append(list, api.Want{Service: service, Server: blue, Account: "ann", Lines: lines})
		}
	}
	for _, w := range []api.Want{run(blue, "ls"), {Service: 2, Server: blue, Account: "ann"}, {Service: 3, Server: blue, Account: "ann"}, {Service: 4, Server: blue, Account: "ann", Path: "/f", To: "/f"}} {
		for _, account := range []string{"", "Ann", "9ann", "ann ", "abcdefghi", "a-b", "ä", "ann@LAND"} {
			w.Account = account
			list = append(list, w)
		}
		w.Account = "ann"
		for _, name := range probe.NotNames() {
			w.Server = name
			list = append(list, w)
		}
	}
	return list
}

// TestWantRight: P25.2, what is right is wanted, at all edges of it, of any host.
func TestWantRight(t *testing.T) {
	for i, w := range rights() {
		s := newSite(true)
		for _, to := range []int{0, -1, 1 << 40, i} {
			if e := s.Want(w, to); e != api.OK {
				t.Errorf("%+v: %v", w, e)
			}
		}
		list := s.Got()
		if len(list) != 4 {
			t.Fatalf("%+v: %+v", w, list)
		}
		for _, g := range list {
			if !sameGot(g, api.Got{Want: w}) {
				t.Errorf("%+v: %+v", w, g)
			}
		}
	}
}

// TestWantWrong: P25.2, what isn't right isn't wanted, also if nothing more could be; nothing has changed.
func TestWantWrong(t *testing.T) {
	s := newSite(true)
	for range 5 {
		for _, w := range wrongs() {
			if e := s.Want(w, place); e != api.ErrArg {
				t.Errorf("%+v: %v", w, e)
			}
		}
		s.Want(run(blue, "ls"), place)
	}
	if list := s.Got(); len(list) != 4 {
		t.Errorf("%+v", list)
	}
}

// TestWantSource: P25.2, of a copy the error of its source, as root, ahead of having no room; of others Path plays no part.
func TestWantSource(t *testing.T) {
	s := newSite(true)
	w := api.Want{Service: api.SvcCopy, Server: blue, Account: "ann", To: "/to"}
	for n := range 6 {
		for path, want := range map[string]api.Errno{"/none": api.ErrNotFound, "/none/x": api.ErrNotFound, "/f/x": api.ErrNotDir, "/": api.ErrArg} {
			w.Path = path
			if _, e := rcp.Source(s.files, api.Root, path, true); e != want {
				t.Errorf("%s: %v", path, e)
			}
			if e := s.Want(w, place); e != want {
				t.Errorf("%s: %v, not %v", path, e, want)
			}
		}
		want := api.OK
		if n > 3 {
			want = api.ErrFull
		}
		w.Path = "/d" // as root, and with all: nobody else may read /d/g
		if e := s.Want(w, place); e != want {
			t.Errorf("%d: %v, not %v", n, e, want)
		}
	}
}

// fills looks whether the client has room for just so many more wants.
func (s *site) fills(t *testing.T, room int) {
	t.Helper()
	for range room {
		s.wants(t, run(green, "ls"))
	}
	for _, w := range rights() {
		if e := s.Want(w, place); e != api.ErrFull {
			t.Errorf("%+v: %v", w, e)
		}
	}
}

// TestWantFull: P25.2, four may not be done at once; each one that is done, well or badly, makes room.
func TestWantFull(t *testing.T) {
	s := newSite(true)
	f := s.meets(t, run(blue, "ls"))
	s.fills(t, 3)
	f.says(t, api.ChanExit, "0")
	f.ends(t, api.ChanOut, api.ChanErr)
	s.fills(t, 0)
	f.ends(t, api.ChanExit)
	s.Tick(s.now)
	s.fills(t, 1)
	for range 58 {
		s.Tick(s.now)
	}
	s.fills(t, 0)
	s.Tick(s.now) // the sixtieth one of three
	s.fills(t, 3)
	s.Tick(s.now)
	s.fills(t, 1)
	if list := s.Got(); len(list) != 9 {
		t.Errorf("%+v", list)
	}
}

// TestSaid: what is said on ChanIn of each service, all of it, and nothing behind it.
func TestSaid(t *testing.T) {
	for i, want := range []string{
		"run ann whoami\n", "run ann \n", "run ann  \n", "run ann " + strings.Repeat("x", 60) + "\n", "run ann \x00\r\xff\t\n", "", "",
		"login ann -\n", "login ann -\n", "login abcdefg9 -\n\r" + rights()[9].Lines[1] + "\r" + rights()[9].Lines[2] + "\rexit 3\r", "login ann -\nls /\r",
		"copy ann /to plain\nC70 4 f\ndata\x00", "copy ann / modes\nD70 0 d\nC60 4 g\nmore\x00E\n",
		"copy ann " + strings.Repeat("/abcdefghijkl", 6) + " plain\nC60 4 g\nmore\x00",
	} {
		w := rights()[i]
		if w.Server != blue {
			continue
		}
		for _, symbols := range kinds {
			f := newSite(symbols).meets(t, w)
			f.goesOn(t, f.hears(t, f.Tick(f.now)))
			if f.said != want || !f.Ended(api.ChanIn) {
				t.Errorf("%+v: %q, not %q", w, f.said, want)
			}
			f.became(t, f.with(t, func(*api.Got) {}))
		}
	}
}

package client_test

import (
	"slices"
	"testing"

	"gangway/api"
	"gangway/krb"
	"gangway/probe"
	"gangway/rcp"
	"gangway/server"
	"gangway/tree"
)

// land is a client with one who gives out tickets, at host 0, and a server, at the place; their mails are under way in order.
type land struct {
	*site
	server   *server.Server
	there    *tree.Tree // the server's files
	apart    int64      // by how much the server's clock is behind
	underWay []api.Mail // to the client those to any other host
}

// newLand gives a land of which nobody wants anything, whose server's rules are DEFAULT.
func newLand(t *testing.T, symbols bool) *land {
	t.Helper()
	s := newSite(symbols)
	there := probe.Planted(probe.Dir("/users", "root", 61), probe.Dir("/users/ann", "ann", 61))
	x, e := server.New(s.sealer, entry(blue), there, "DEFAULT", begun)
	if e != api.OK {
		t.Fatal(e)
	}
	return &land{site: s, server: x, there: there}
}

// round lets all tick, and all come that is under way, but what is lost: each mail in so many of a hundred cases.
func (l *land) round(t *testing.T, dice *probe.Dice, lost int) {
	t.Helper()
	l.now++
	l.underWay = append(l.underWay, l.server.Tick(l.now-l.apart)...)
	l.underWay = append(l.underWay, l.Tick(l.now)...)
	for len(l.underWay) > 0 {
		mail := l.underWay[0]
		l.underWay = l.underWay[1:]
		if dice.Roll(100) >= lost {
			l.underWay = append(l.underWay, l.comes(t, mail)...)
		}
	}
}

// comes lets a mail come to its host, and gives what is sent for it.
func (l *land) comes(t *testing.T, mail api.Mail) []api.Mail {
	t.Helper()
	switch mail.To {
	case 0:
		m, e := krb.Read(mail.Data)
		if e != api.OK {
			t.Fatal(e)
		}
		return []api.Mail{{To: number, Data: write(t, l.main.Answer(m, l.now))}}
	case place:
		list, _ := l.server.Take(mail.Data, number, l.now-l.apart)
		return list
	}
	list, err := l.Take(mail.Data, l.now)
	if err != nil && mail.To != number {
		t.Fatal(err)
	}
	return list
}

// TestWhole: P25.1 to P25.5, the example among them: what is wanted is done, by a real server, of each service, and told; also if much is lost on the way.
func TestWhole(t *testing.T) {
	wants := []struct {
		want      api.Want
		code      int
		failed    api.Errno
		out, errs string
	}{
		{run(blue, "whoami"), 0, 0, "ann\n", ""},
		{run(blue, "echo a  b"), 0, 0, "a b\n", ""},
		{run(blue, "cat /none"), 1, 0, "", "cat: 110\n"},
		{run(blue, "exit 255"), 255, 0, "", ""},
		{run(blue, ""), 0, 0, "", ""},
		{api.Want{Service: api.SvcRun, Server: blue, Account: "bob", Lines: []string{"whoami"}}, 0, api.ErrDenied, "", ""},
		{api.Want{Service: api.SvcLogin, Server: blue, Account: "ann", Lines: []string{"whoami", "nix"}}, 127, 0, "whoami\r\nann\nnix\r\nnix: 110\n", ""},
		{api.Want{Service: api.SvcTelnet, Server: blue, Account: "ann", Lines: []string{"whoami", "exit 3", "whoami"}}, 3, 0, "whoami\r\nann\nexit 3\r\n", ""},
		{api.Want{Service: api.SvcTelnet, Server: blue, Account: "ann"}, 0, 0, "", ""},
		{api.Want{Service: api.SvcCopy, Server: blue, Account: "ann", Path: "/d", To: "/users/ann/d", Modes: true}, 0, 0, "", ""},
		{api.Want{Service: api.SvcCopy, Server: blue, Account: "ann", Path: "/f", To: "/users/none/f"}, 0, api.ErrNotFound, "", ""},
	}
	for seed := range 30 {
		dice, l := probe.NewDice(uint64(seed)), newLand(t, seed%2 == 0)
		lost := seed / 10 * 12
		for i, x := range wants {
			l.wants(t, x.want)
			for rounds := 0; !l.Got()[i].Done; rounds++ {
				if rounds > 8+lost {
					t.Fatalf("%d: %+v", seed, l.Got()[i])
				}
				l.round(t, dice, lost)
			}
			g := l.Got()[i]
			want := api.Got{Want: x.want, Done: true, Code: x.code, Failed: int(x.failed), Out: []byte(x.out), Err: []byte(x.errs), Key: g.Key, Nonce: g.Nonce, Sent: x.want.Lines, Confirmed: true}
			if !sameGot(g, want) {
				t.Errorf("%d: %+v, not %+v", seed, g, want)
			}
			l.confirmed(t, l.server)
			for range 41 { // at most: the server's sessions end
				l.round(t, dice, 0)
			}
		}
		from, e := rcp.Source(l.files, api.Root, "/d", true)
		to, e2 := rcp.Source(l.there, api.Root, "/users/ann/d", true)
		if e != api.OK || e2 != api.OK || string(from) != string(to) {
			t.Errorf("%d: %q, not %q", seed, to, from)
		}
	}
}

// confirmed looks whether of each want that is Confirmed a server has a session, and of the others the client has none.
func (s *site) confirmed(t *testing.T, servers ...*server.Server) int {
	t.Helper()
	var served []api.Served
	for _, x := range servers {
		served = append(served, x.Served()...)
	}
	n := 0
	for _, g := range s.Got() {
		has := slices.ContainsFunc(served, func(d api.Served) bool { return d.Key == g.Key && d.Client == "ann@LAND" && d.Nonce == g.Nonce })
		if g.Confirmed != has || !has && (g.Key != api.Key{} || g.Nonce != 0 || len(g.Sent)+len(g.Out)+len(g.Err) > 0) {
			t.Errorf("%+v: %+v", g, served)
		}
		if g.Confirmed {
			n++
		}
	}
	return n
}

// TestConfirmed: P25.6, whatever comes, of each want that is Confirmed, and of no other one, its server has a session of the same Key, Client and Nonce; and no two have one.
func TestConfirmed(t *testing.T) {
	n := 0
	for seed := range uint64(60) {
		g := play(t, newPlaySite(seed%2 == 0), seed, 400)
		n += g.confirmed(t, g.servers...)
		for i, x := range g.Got() {
			for _, y := range g.Got()[:i] {
				if x.Confirmed && y.Confirmed && (x.Key == y.Key || x.Nonce == y.Nonce) {
					t.Errorf("%+v, %+v", x, y)
				}
			}
			if server := slices.Index(names(), x.Want.Server); x.Confirmed && server > 0 && !slices.ContainsFunc(g.servers[server-1].Served(), func(d api.Served) bool { return d.Key == x.Key }) {
				t.Errorf("%+v", x)
			}
		}
	}
	if n < 100 {
		t.Errorf("%d were confirmed", n)
	}
}

// TestRefused: P25.3, P25.4, a want that is refused asks, or comes, on and on, and fails at last with the last reason; but if the reason goes it is done. A server whose clock is behind by 14 lets in what is sent once more by 4 later.
func TestRefused(t *testing.T) {
	for _, x := range []struct {
		server string
		apart  int64
		turned int // the round in which the clocks are put right
		want   api.Got
	}{
		{"host/grey@LAND", 0, 99, api.Got{Done: true, Failed: int(api.ErrServer)}}, {blue, 15, 99, api.Got{Done: true, Failed: int(api.ErrSkew)}}, {green, 0, 99, api.Got{Done: true, Failed: int(api.ErrSeal)}},
		{blue, 14, 99, api.Got{Done: true, Out: []byte("ann\n"), Confirmed: true}}, {blue, 15, 40, api.Got{Done: true, Out: []byte("ann\n"), Confirmed: true}}, {blue, 1000, 50, api.Got{Done: true, Out: []byte("ann\n"), Confirmed: true}},
	} {
		l, dice := newLand(t, true), probe.NewDice(1)
		l.apart = x.apart
		l.wants(t, run(x.server, "whoami"))
		for n := range 60 {
			if n == x.turned {
				l.apart = 0
			}
			l.round(t, dice, 0)
		}
		g := l.Got()[0]
		x.want.Want, x.want.Key, x.want.Nonce = g.Want, g.Key, g.Nonce
		if x.want.Confirmed {
			x.want.Sent = []string{"whoami"}
		}
		l.became(t, x.want)
		l.confirmed(t, l.server)
	}
}

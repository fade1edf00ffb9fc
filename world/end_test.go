package world_test

import (
	"fmt"
	"slices"
	"testing"

	"gangway/api"
	"gangway/probe"
)

const (
	maxRounds = 40 // in which a want is done
	maxApart  = 4  // are the clocks at first
	calm      = 20 // ticks since a restart, at least, for that the want hasn't failed
)

// ends lets rounds go by till the last want of a user's of a server is done, as it is in the end, and gives how many rounds those were; restarted is when the server was, or 0.
func (l *land) ends(user string, server int, restarted int64) int {
	l.t.Helper()
	rest := l.Now(server) - restarted
	for n := range maxRounds + 1 {
		if g := l.last(user); g.Done {
			if g.Failed >= int(api.ErrClient) && g.Failed <= int(api.ErrQuarantine) && (restarted == 0 || rest+int64(n) >= calm) {
				l.t.Errorf("%d: %+v", n, g)
			}
			return n
		}
		l.round()
	}
	l.t.Fatalf("%+v isn't done", l.last(user))
	return 0
}

// TestInTheEnd: P26.8, with clocks that are apart by up to 4 in any way, also just behind a restart of the server.
func TestInTheEnd(t *testing.T) {
	for _, restarts := range []bool{false, true} {
		for apart := range 125 { // what the three clocks are ahead by
			l := newLand(t, true, 1, 1)
			for host, ahead := range []int{apart % 5, apart / 5 % 5, apart / 25} {
				l.tick(host, ahead)
			}
			restarted := int64(0)
			if restarts {
				restarted = l.Now(1)
				l.does(api.Event{Kind: api.EvRestart, Who: 1})
			}
			w := []api.Want{{Service: api.SvcRun, Lines: []string{"whoami"}}, {Service: api.SvcLogin, Lines: []string{"whoami", "exit 3"}}, {Service: api.SvcTelnet}, {Service: api.SvcCopy, Path: "/src", To: "/users/ann/new"}}[apart%4]
			l.does(l.wanted("ann", 1, w))
			if n := l.ends("ann", 1, restarted); l.last("ann").Failed != 0 || !restarts && n != 4 || restarts && (n < 5 || n > 25) {
				t.Errorf("%d: %d rounds, %+v", apart, n, l.last("ann"))
			}
		}
	}
}

// TestManyInTheEnd: P26.8, also when clients want more than the server has room for at once; what is done then is what each of them wants.
func TestManyInTheEnd(t *testing.T) {
	for _, symbols := range kinds {
		l := newLand(t, symbols, 2, 2)
		for n := range 4 {
			for _, user := range []string{"ann", "bob"} {
				l.does(l.wanted(user, 1, api.Want{Service: api.SvcLogin, Lines: []string{fmt.Sprintf("echo %d", n)}}))
			}
		}
		full := 0
		for range 12 {
			for _, e := range l.round() {
				if e == api.ErrFull {
					full++
				}
			}
		}
		for _, host := range []int{3, 4} {
			for n, g := range l.Got(host) {
				if !g.Done || g.Failed != 0 || string(g.Out) != fmt.Sprintf("echo %d\r\n%d\n", n, n) {
					t.Errorf("%+v", g)
				}
			}
		}
		if full == 0 || len(l.Served(1)) != 8 || l.isOpen(1) != 0 {
			t.Errorf("%d, %+v", full, l.Served(1))
		}
	}
}

// TestAnythingInTheEnd: P26.8, whatever happened before: what was wanted, lost, doubled, and is under way, and restarts.
func TestAnythingInTheEnd(t *testing.T) {
	tried, late := 0, 0
	for seed := range uint64(1500) {
		g := newGame(t, seed%8 > 0, seed, false)
		restarted := make([]int64, g.hosts())
		for range g.dice.Roll(250) {
			e := g.next()
			if e.Kind == api.EvTick && g.Now(e.Who) != g.Now(g.behind()) && g.dice.Roll(3) > 0 {
				continue
			}
			if g.do(e) == nil && e.Kind == api.EvRestart {
				restarted[e.Who] = g.Now(e.Who)
			}
		}
		server := 1 + g.dice.Roll(g.servers)
		user := g.user(1 + g.servers + g.dice.Roll(g.clients))
		if g.isOpen(server) > 0 && g.dice.Roll(2) == 0 {
			restarted[server] = g.Now(server)
			g.do(api.Event{Kind: api.EvRestart, Who: server})
		}
		home := "/users/" + user
		if g.isOpen(server) > 0 || g.apart() > maxApart || slices.ContainsFunc(g.Nodes(server), func(n api.Node) bool { return n.Path == home+"/.k5login" }) {
			continue
		}
		w := []api.Want{{Service: api.SvcRun, Lines: []string{"whoami"}}, {Service: api.SvcLogin, Lines: []string{"nix", "exit 3"}}, {Service: api.SvcTelnet}, {Service: api.SvcCopy, Path: "/src", To: home + "/last"}}[g.dice.Roll(4)]
		if g.Do(g.wanted(user, server, w)) != nil { // it wants too much already
			continue
		}
		tried++
		if g.ends(user, server, restarted[server]) > 10 {
			late++
		}
	}
	if tried < 300 || late < 50 {
		t.Errorf("%d wants, %d were done late", tried, late)
	}
}

// apart tells by how much the clocks are apart.
func (l *land) apart() int64 {
	least, most := l.Now(0), l.Now(0)
	for host := range l.hosts() {
		least, most = min(least, l.Now(host)), max(most, l.Now(host))
	}
	return most - least
}

// TestManyMailsInTheEnd: P26.8, also with as many mails under way as there may be.
func TestManyMailsInTheEnd(t *testing.T) {
	l := newLand(t, true, 1, 2)
	l.does(l.run("bob", 1, "whoami"))
	l.tick(3, 1)
	for l.Len() < maxMails {
		l.does(api.Event{Kind: api.EvCopy, K: l.Len() / 2})
	}
	l.does(l.run("ann", 1, "whoami"))
	if n := l.ends("ann", 1, 0); n != 5 || !probe.SameNodes(l.Nodes(1), serverNodes()) {
		t.Errorf("%d rounds", n)
	}
}

// TestWithheldInTheEnd: P26.8, also behind ten ticks in which nothing has come of what three other wants have sent: the comings that are under way still, and that the server may let in, leave room for one more.
func TestWithheldInTheEnd(t *testing.T) {
	l := newLandDone(t)
	l.round() // the session is over
	for range 3 {
		l.does(l.run("ann", 1, "whoami"))
	}
	for range 11 {
		for host := range l.hosts() {
			l.tick(host, 1)
		}
	}
	l.does(l.run("ann", 1, "whoami"))
	if n := l.ends("ann", 1, 0); n > 10 || l.last("ann").Failed != 0 || len(l.Served(1)) <= 5 {
		t.Errorf("%d rounds, %d sessions", n, len(l.Served(1)))
	}
}

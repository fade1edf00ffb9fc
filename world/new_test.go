package world_test

import (
	"bytes"
	"fmt"
	"math"
	"slices"
	"testing"

	"gangway/api"
	"gangway/mac"
	"gangway/probe"
	"gangway/world"
)

// TestNew: P26.1, there are one or two servers, and one or two clients, else nothing.
func TestNew(t *testing.T) {
	counts := []int{math.MinInt, -1, 0, 1, 2, 3, 256 + 1, 1<<32 + 1, math.MaxInt}
	for _, symbols := range kinds {
		for _, servers := range counts {
			for _, clients := range counts {
				w, e := world.New(symbols, servers, clients)
				right := (servers == 1 || servers == 2) && (clients == 1 || clients == 2)
				if right != (e == api.OK) || right != (w != nil) || !right && e != api.ErrConfig {
					t.Errorf("%d, %d: %v, %v", servers, clients, w, e)
				}
			}
		}
	}
}

// principals gives those of a world, as the chapter tells them.
func principals(servers, clients int) []api.Entry {
	names := map[[2]int][]string{
		{1, 1}: {"krbtgt/LAND@LAND", "host/s1@LAND", "ann@LAND"},
		{1, 2}: {"krbtgt/LAND@LAND", "host/s1@LAND", "ann@LAND", "bob@LAND"},
		{2, 1}: {"krbtgt/LAND@LAND", "host/s1@LAND", "host/s2@LAND", "ann@LAND"},
		{2, 2}: {"krbtgt/LAND@LAND", "host/s1@LAND", "host/s2@LAND", "ann@LAND", "bob@LAND"},
	}[[2]int{servers, clients}]
	var list []api.Entry
	for n, name := range names {
		list = append(list, api.Entry{Name: name, Key: api.Key{0xf1, 15: byte(n)}, Life: 1000, Flags: 1})
	}
	return list
}

// serverNodes and clientNodes give the files of a server and a client, as the chapter tells them.
func serverNodes() []api.Node {
	return []api.Node{probe.Dir("/", "root", 61), probe.Dir("/users", "root", 61), probe.Dir("/users/ann", "ann", 61), probe.Dir("/users/bob", "bob", 61)}
}

func clientNodes() []api.Node {
	return []api.Node{
		probe.Dir("/", "root", 61), probe.File("/one", "root", 60, "alone"), probe.Dir("/src", "root", 61), probe.File("/src/a", "root", 60, "first"),
		probe.Dir("/src/d", "root", 56), probe.File("/src/d/b", "root", 48, string(make([]byte, 100))),
	}
}

// TestBegin: P26.1, P26.3, in a new world there are the principals, the hosts and the files that the chapter tells, all clocks are at 1000, and nothing has happened.
func TestBegin(t *testing.T) {
	for _, symbols := range kinds {
		for servers := 1; servers <= 2; servers++ {
			for clients := 1; clients <= 2; clients++ {
				l := newLand(t, symbols, servers, clients)
				if !slices.Equal(l.Entries(), principals(servers, clients)) {
					t.Errorf("%+v", l.Entries())
				}
				if l.Len() != 0 || len(l.Seen()) != 0 || len(l.Terms()) != 0 || len(l.Thefts()) != 0 {
					t.Errorf("%d, %q, %+v, %+v", l.Len(), l.Seen(), l.Terms(), l.Thefts())
				}
				for host := range l.hosts() {
					want := clientNodes()
					switch {
					case host == 0:
						want = nil
					case host <= servers:
						want = serverNodes()
					}
					if l.Now(host) != 1000 || !probe.SameNodes(l.Nodes(host), want) || len(l.Served(host))+len(l.Log(host))+len(l.Got(host)) != 0 {
						t.Errorf("%d of %d: %d, %+v", host, l.hosts(), l.Now(host), l.Nodes(host))
					}
				}
				for _, host := range []int{math.MinInt, -1, l.hosts(), l.hosts() + 1, 1 << 32, math.MaxInt} {
					if l.Now(host) != 0 || len(l.Nodes(host))+len(l.Served(host))+len(l.Log(host))+len(l.Got(host)) != 0 {
						t.Errorf("%d of %d: %d, %+v", host, l.hosts(), l.Now(host), l.Nodes(host))
					}
				}
			}
		}
	}
}

// TestExample: the chapter's example, in worlds of all sizes: what is wanted is done in six rounds.
func TestExample(t *testing.T) {
	for _, symbols := range kinds {
		for n := range 4 {
			l := newLand(t, symbols, 1+n/2, 1+n%2)
			for host := l.servers + 1; host < l.hosts(); host++ {
				for server := 1; server <= l.servers; server++ {
					l.does(l.run(l.user(host), server, "whoami"))
				}
			}
			for range 6 {
				l.round()
			}
			for host := l.servers + 1; host < l.hosts(); host++ {
				if len(l.Got(host)) != l.servers {
					t.Errorf("%+v", l.Got(host))
				}
				for _, g := range l.Got(host) {
					if !g.Done || g.Code != 0 || g.Failed != 0 || string(g.Out) != l.user(host)+"\n" || len(g.Err) != 0 || !g.Confirmed {
						t.Errorf("%+v", g)
					}
				}
			}
			for server := 1; server <= l.servers; server++ {
				ran := []api.Ran{{Who: "ann", Line: "whoami"}, {Who: "bob", Line: "whoami"}}[:l.clients]
				if !slices.Equal(l.Log(server), ran) || len(l.Served(server)) != l.clients || len(l.Got(server))+len(l.Served(0))+len(l.Log(0)) != 0 {
					t.Errorf("%+v, %+v", l.Log(server), l.Served(server))
				}
			}
			for host := l.servers + 1; host < l.hosts(); host++ {
				if len(l.Served(host))+len(l.Log(host)) != 0 {
					t.Errorf("%+v, %+v", l.Log(host), l.Served(host))
				}
			}
		}
	}
}

// TestOneSealer: all seal by one sealer, of the seed that the chapter tells: the session's key is the fifth that is drawn, behind that of the first ticket, the one in the question, that of the ticket, and the one in the coming.
func TestOneSealer(t *testing.T) {
	for _, symbols := range kinds {
		l := newLand(t, symbols, 1, 2)
		l.does(l.run("ann", 1, "whoami"))
		want := api.Key{0xf5, 15: 4}
		if !symbols {
			want = mac.Derive(api.Key{0xf2}, "fresh", 4)
		}
		if g := l.isDone("ann", 6); g.Key != want || l.Served(1)[0].Key != want || g.Nonce != 2<<32+3 {
			t.Errorf("%+v, not %x", g, want)
		}
		l.does(l.run("bob", 1, "whoami"))
		if g := l.isDone("bob", 6); g.Nonce != 3<<32+3 || g.Key == want {
			t.Errorf("%+v", g)
		}
		terms := l.Terms()
		if symbols != (len(terms) > 0) {
			t.Errorf("%d terms", len(terms))
		}
		for _, n := range []int{0, 3} { // the first ticket, and that for the server
			want := api.Term{Key: api.Key{0xf1, 15: byte(n / 3)}, Usage: api.UseTicket}
			if symbols && (terms[n].Key != want.Key || terms[n].Usage != want.Usage || !bytes.Contains(terms[n].Plain, []byte(l.Entries()[n/3].Name))) {
				t.Errorf("%d: %+v", n, terms[n])
			}
		}
	}
}

// TestTwoWorlds: rule 6, two worlds share nothing.
func TestTwoWorlds(t *testing.T) {
	one, two := newLand(t, true, 2, 2), newLand(t, true, 2, 2)
	begin := two.state(true)
	one.does(one.run("ann", 1, "put /users/ann/f data"))
	one.does(api.Event{Kind: api.EvSteal, Who: 3})
	one.isDone("ann", 6)
	if !one.has(1, "/users/ann/f", "data") || two.state(true) != begin || len(two.Terms()) != 0 {
		t.Errorf("%s", two.state(true))
	}
	two.does(two.run("ann", 1, "put /users/ann/f data"))
	two.does(api.Event{Kind: api.EvSteal, Who: 3})
	two.isDone("ann", 6)
	if one.state(true) != two.state(true) || fmt.Sprint(one.Terms()) != fmt.Sprint(two.Terms()) {
		t.Errorf("%s", two.state(true))
	}
}

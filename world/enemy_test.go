package world_test

import (
	"bytes"
	"fmt"
	"slices"
	"strings"
	"testing"

	"gangway/api"
)

// knowledge is what the enemy knows: texts, and by each 16 bytes that stand somewhere in one of these, one behind the other, whether they do.
type knowledge struct {
	texts []string
	has   map[api.Key]bool
}

// learn lets the enemy know a text.
func (k *knowledge) learn(text []byte) {
	k.texts = append(k.texts, string(text))
	for i := 16; i <= len(text); i++ {
		k.has[api.Key(text[i-16:i])] = true
	}
}

// reads tells whether a text stands in one that the enemy knows.
func (k *knowledge) reads(text string) bool {
	return slices.ContainsFunc(k.texts, func(s string) bool { return strings.Contains(s, text) })
}

// knowledge gives what the enemy knows, as the chapter tells it: what was Seen, stolen keys, and what was sealed under a key that it knows.
func (l *land) knowledge() *knowledge {
	k := &knowledge{has: map[api.Key]bool{}}
	for _, data := range l.Seen() {
		k.learn(data)
	}
	for _, own := range l.Entries() {
		if l.isStolen(own.Name) {
			k.learn(own.Key[:])
		}
	}
	terms := l.Terms()
	opened := make([]bool, len(terms))
	for grows := true; grows; {
		grows = false
		for n, x := range terms {
			if !opened[n] && k.has[x.Key] {
				opened[n], grows = true, true
				k.learn(x.Plain)
			}
		}
	}
	return k
}

// isStolen tells whether one of these principals' keys was stolen.
func (l *land) isStolen(names ...string) bool {
	return slices.ContainsFunc(l.Thefts(), func(x api.Theft) bool { return slices.Contains(names, x.Name) })
}

// TestKnowledge: P26.4, P26.6, of what was wanted of the first server by ann, and by bob, the enemy knows, at any time, just what the keys open that it has stolen: a user's key all of that user's, a server's all that was said to it, that of the tickets everything.
func TestKnowledge(t *testing.T) {
	for _, ahead := range []bool{true, false} { // the key is stolen ahead of all, or when all is over
		for stolen := -1; stolen < 5; stolen++ {
			l := newLand(t, true, 2, 2)
			steal := func() {
				if stolen >= 0 {
					l.does(api.Event{Kind: api.EvSteal, Who: stolen})
				}
			}
			if ahead {
				steal()
			}
			for _, user := range []string{"ann", "bob"} {
				for server := 1; server <= 2; server++ {
					l.does(l.run(user, server, fmt.Sprintf("echo secret of %s %d", user, server)))
					l.isDone(user, 6)
				}
			}
			if !ahead {
				if k := l.knowledge(); k.reads("secret") || k.has[l.last("ann").Key] || k.has[l.Entries()[3].Key] {
					t.Errorf("with no key it knows %q", k.texts)
				}
				steal()
			}
			k := l.knowledge()
			for host, own := range l.Entries() {
				if k.has[own.Key] != (host == stolen) {
					t.Errorf("with %d, it knows the key of %d: %v", stolen, host, k.has[own.Key])
				}
			}
			for host := 3; host < 5; host++ {
				for n, g := range l.Got(host) {
					want := stolen == 0 || stolen == 1+n || stolen == host
					line, put := g.Want.Lines[0], string(g.Out)
					if k.has[g.Key] != want || k.reads(line) != want || k.reads(put) != want || !g.Done {
						t.Errorf("with %d, of %q: %v, %v, %v", stolen, line, k.has[g.Key], k.reads(line), k.reads(put))
					}
				}
			}
		}
	}
}

// TestKnowledgeGrows: P26.4, the enemy knows what it has forged under a key that it has stolen, and a key that stands in that, anywhere; but not by 16 bytes that stand there otherwise.
func TestKnowledgeGrows(t *testing.T) {
	l := newLand(t, true, 1, 1)
	l.does(api.Event{Kind: api.EvSteal, Who: 1})
	key := api.Key{0xf1, 15: 2}
	l.does(api.Event{Kind: api.EvForge, Who: 1, K: 99, Data: append(key[:8:8], append([]byte{9}, key[8:]...)...)})
	l.does(l.run("ann", 1, "whoami"))
	l.tick(2, 1)
	l.comes()
	if k := l.knowledge(); k.has[key] || k.has[api.Key{0xf5, 15: 0}] {
		t.Error("it knows ann's key, or the first ticket's")
	}
	l.does(api.Event{Kind: api.EvForge, Who: 1, K: -99, Data: append([]byte("some"), append(key[:], "more"...)...)})
	if k := l.knowledge(); !k.has[key] || !k.has[api.Key{0xf5, 15: 0}] {
		t.Error("it doesn't know ann's key, or the first ticket's")
	}
	if k := newLandDone(t).knowledge(); k.has[key] {
		t.Error("another world's")
	}
}

// newLandDone gives a world in which ann has run a command.
func newLandDone(t *testing.T) *land {
	t.Helper()
	l := newLand(t, true, 1, 1)
	l.does(l.run("ann", 1, "whoami"))
	l.isDone("ann", 6)
	return l
}

// TestSecret: P26.6, whatever the enemy sends and forges, it knows no session's key without a theft: neither the client's key was stolen, nor its server's, nor that of the tickets. With one of them it knows the key.
func TestSecret(t *testing.T) {
	known, secret, beside := 0, 0, 0
	for seed := range uint64(150) {
		g := newGame(t, true, seed, true)
		g.thieves = int(seed % 3 * 6)
		g.play(600)
		g.knowsNothing()
		k := g.knowledge()
		for user, host := range map[string]int{"ann": 1 + g.servers, "bob": 2 + g.servers} {
			for _, got := range g.Got(host) {
				if got.Key == (api.Key{}) {
					continue
				}
				stolen := g.isStolen(user+"@LAND", got.Want.Server, "krbtgt/LAND@LAND")
				switch {
				case k.has[got.Key] != stolen:
					t.Errorf("%d: %v of %+v, with %+v", seed, k.has[got.Key], got, g.Thefts())
				case stolen:
					known++
				case len(g.Thefts()) > 0:
					beside++
				default:
					secret++
				}
			}
		}
	}
	if known < 50 || secret < 50 || beside < 50 {
		t.Errorf("%d keys are known, %d aren't, %d aren't in spite of thefts", known, secret, beside)
	}
}

// knowsNothing looks whether no key that was drawn, or will be, stands in what the enemy has sent or forged, or in what was wanted: by symbols these are known beforehand.
func (g *game) knowsNothing() {
	g.t.Helper()
	drawn := []byte{0xf5, 0, 0, 0, 0, 0, 0, 0}
	for _, e := range g.events {
		if bytes.Contains(e.Data, drawn) || strings.Contains(fmt.Sprintf("%v", e.Want), string(drawn)) {
			g.t.Fatalf("%+v", e)
		}
	}
}

// hasWant tells whether among what a client wanted there is what a session comes from that has run a command.
func hasWant(d api.Served, server string, wants []api.Got) bool {
	return slices.ContainsFunc(wants, func(g api.Got) bool {
		return g.Key == d.Key && g.Confirmed && g.Want.Server == server && g.Want.Account == d.Account && len(d.Lines) <= len(g.Sent) && slices.Equal(d.Lines, g.Sent[:len(d.Lines)])
	})
}

// TestHasWant: what hasWant asks for is all that P26.5 asks for.
func TestHasWant(t *testing.T) {
	d := api.Served{Key: api.Key{5}, Client: "ann@LAND", Account: "ann", Lines: []string{"a", "b"}}
	g := api.Got{Want: api.Want{Server: "host/s1@LAND", Account: "ann"}, Key: api.Key{5}, Sent: []string{"a", "b", "c"}, Confirmed: true}
	if !hasWant(d, "host/s1@LAND", []api.Got{{}, g}) || hasWant(d, "host/s1@LAND", nil) || hasWant(d, "host/s2@LAND", []api.Got{g}) {
		t.Error("the right one")
	}
	for n, change := range []func(d *api.Served, g *api.Got){
		func(d *api.Served, g *api.Got) { d.Key[15]++ }, func(d *api.Served, g *api.Got) { d.Account = "bob" }, func(d *api.Served, g *api.Got) { g.Confirmed = false },
		func(d *api.Served, g *api.Got) { g.Sent = []string{"a"} }, func(d *api.Served, g *api.Got) { g.Sent = []string{"a", "c"} }, func(d *api.Served, g *api.Got) { d.Lines = []string{"b"} },
	} {
		d, g := d, g
		change(&d, &g)
		if hasWant(d, "host/s1@LAND", []api.Got{g}) {
			t.Errorf("%d: %+v, %+v", n, d, g)
		}
	}
}

// guard looks, behind each event, who is served.
type guard struct {
	*game
	ran    map[[2]int]int // how many commands each session has run
	served int            // commands that were run with no theft ahead that counts
	robbed int            // and with one
}

// newGuard gives a guard of a game.
func newGuard(g *game) *guard {
	x := &guard{game: g, ran: map[[2]int]int{}}
	g.watch = func(e api.Event) {
		if e.Kind == api.EvDeliver {
			x.look()
		}
	}
	return x
}

// look looks at all sessions that have run a command just now, and whether all have keys of their own.
func (x *guard) look() {
	x.t.Helper()
	keys := map[api.Key]int{}
	for server := 1; server <= x.servers; server++ {
		for n, d := range x.Served(server) {
			keys[d.Key]++
			if keys[d.Key] > 1 {
				x.t.Fatalf("two sessions have the key %x", d.Key)
			}
			at := [2]int{server, n}
			if len(d.Lines) == x.ran[at] {
				continue
			}
			x.ran[at] = len(d.Lines)
			if x.isStolen(d.Client, serverName(server), "krbtgt/LAND@LAND") {
				x.robbed++
				continue
			}
			x.served++
			user := strings.TrimSuffix(d.Client, "@LAND")
			if !hasWant(d, serverName(server), x.Got(x.client(user))) {
				x.t.Fatalf("%+v at %d, of %+v", d, server, x.Got(x.client(user)))
			}
		}
	}
}

// TestWhoIsServed: P26.5, whatever the enemy sends and forges, whoever runs a command is a client that wants just that, and has been shown who the server is, as long as none of the three keys is stolen; no two sessions have one key.
func TestWhoIsServed(t *testing.T) {
	served, robbed, forged := 0, 0, 0
	for seed := range uint64(150) {
		x := newGuard(newGame(t, true, 1000+seed, true))
		x.thieves = int(seed % 4 * 6)
		x.play(600)
		served, robbed, forged = served+x.served, robbed+x.robbed, forged+x.met["7 "]
	}
	if served < 200 || robbed < 50 || forged < 100 {
		t.Errorf("%d commands were run, %d behind a theft, %d boxes were forged", served, robbed, forged)
	}
}

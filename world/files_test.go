package world_test

import (
	"slices"
	"testing"

	"gangway/api"
	"gangway/probe"
	"gangway/shell"
)

// keeper looks, behind each event, why a server's files have changed.
type keeper struct {
	*game
	nodes    [][]api.Node // of each host, as they were
	logged   []int        // how many commands each host had run
	commands int          // that have changed files
	copies   int          // boxes that have
}

// newKeeper gives a keeper of a game.
func newKeeper(g *game) *keeper {
	x := &keeper{game: g, logged: make([]int, g.hosts())}
	for host := range g.hosts() {
		x.nodes = append(x.nodes, g.Nodes(host))
	}
	g.watch = x.look
	return x
}

// look looks at the files of all hosts.
func (x *keeper) look(e api.Event) {
	x.t.Helper()
	for host := range x.hosts() {
		was, is, log := x.nodes[host], x.Nodes(host), x.Log(host)
		ran := log[min(x.logged[host], len(log)):]
		x.nodes[host], x.logged[host] = is, len(log)
		switch {
		case len(log) > 0 && len(ran) > 0:
			if !probe.SameNodes(is, behind(was, ran)) || e.Kind != api.EvDeliver {
				x.t.Fatalf("%+v: %+v behind %+v, not %+v", e, is, ran, behind(was, ran))
			}
			if !probe.SameNodes(is, was) {
				x.commands++
			}
		case !probe.SameNodes(is, was):
			x.copies++
			if e.Kind != api.EvDeliver || !x.isCopy(host, parts(was, is)) {
				x.t.Fatalf("%+v: %+v behind %+v", e, is, was)
			}
		}
	}
}

// behind gives the files that there are behind commands.
func behind(nodes []api.Node, ran []api.Ran) []api.Node {
	t := probe.Planted(nodes[1:]...) // without the top, which nobody but root changes
	s := shell.New(t)
	for _, r := range ran {
		s.Run(r.Who, r.Line)
	}
	return t.Nodes()
}

// parts gives the nodes that are not as they were, or were not there; and those that aren't there any more.
func parts(was, is []api.Node) []api.Node {
	var list []api.Node
	for _, pair := range [][2][]api.Node{{was, is}, {is, was}} {
		for _, n := range pair[1] {
			if !slices.ContainsFunc(pair[0], func(m api.Node) bool { return probe.SameNodes([]api.Node{m}, []api.Node{n}) }) {
				list = append(list, n)
			}
		}
	}
	return list
}

// isCopy tells whether a client copies, as somebody who is served at a server, to where all these nodes are.
func (x *keeper) isCopy(server int, nodes []api.Node) bool {
	for _, d := range x.Served(server) {
		for host := 1 + x.servers; host < x.hosts() && d.Service == api.SvcCopy; host++ {
			for _, g := range x.Got(host) {
				outside := func(n api.Node) bool { return !within(n.Path, g.Want.To) }
				if g.Key == d.Key && g.Want.Service == api.SvcCopy && g.Want.Account == d.Account && !slices.ContainsFunc(nodes, outside) {
					return true
				}
			}
		}
	}
	return false
}

// TestFiles: P26.9, whatever happens, and whatever the enemy sends and forges, a server's files are changed only by commands that its Log tells, just as these do, and by copies of who is served, only in what they copy to; a client's never.
func TestFiles(t *testing.T) {
	commands, copies := 0, 0
	for seed := range uint64(80) {
		x := newKeeper(newGame(t, seed%4 > 0, 3000+seed, seed%2 > 0))
		x.thieves = int(seed % 3 * 10)
		x.play(600)
		for host := 1 + x.servers; host < x.hosts(); host++ {
			if !probe.SameNodes(x.Nodes(host), clientNodes()) {
				t.Errorf("%d: %+v", seed, x.Nodes(host))
			}
		}
		commands, copies = commands+x.commands, copies+x.copies
	}
	if commands < 100 || copies < 100 {
		t.Errorf("%d commands and %d boxes have changed files", commands, copies)
	}
}

// TestFilesOnce: P26.9, a copy that comes twice over the network is made once, and what the enemy does with its boxes behind the session's end changes nothing any more.
func TestFilesOnce(t *testing.T) {
	l := newLand(t, true, 1, 1)
	l.does(l.wanted("ann", 1, api.Want{Service: api.SvcCopy, Path: "/one", To: "/users/ann/f"}))
	l.isDone("ann", 6)
	l.does(l.run("ann", 1, "put /users/ann/f other"))
	l.isDone("ann", 6)
	for range 2 {
		for _, data := range l.Seen() {
			for host := range l.hosts() {
				l.inject(2, host, string(data))
			}
		}
		l.comes()
		l.tick(1, 1)
	}
	if !l.has(1, "/users/ann/f", "other") || len(l.Log(1)) != 1 {
		t.Errorf("%+v", l.Nodes(1))
	}
}

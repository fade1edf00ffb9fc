package world_test

import (
	"errors"
	"fmt"
	"slices"
	"strconv"
	"strings"
	"testing"

	"gangway/api"
	"gangway/krb"
	"gangway/probe"
	"gangway/world"
)

const begun = 1000 // the time at which the worlds of the tests begin

// kinds are those of sealers: by symbols, by sums.
var kinds = []bool{true, false}

// lands is what a world does; the twin does the same.
type lands interface {
	Do(e api.Event) error
	Len() int
	Now(host int) int64
	Served(host int) []api.Served
	Log(host int) []api.Ran
	Nodes(host int) []api.Node
	Got(host int) []api.Got
	Seen() [][]byte
	Terms() []api.Term
	Entries() []api.Entry
	Thefts() []api.Theft
}

// land is a world, with how many servers and clients it has.
type land struct {
	lands
	t                *testing.T
	servers, clients int
}

// newLand gives a world in which nothing has happened.
func newLand(t *testing.T, symbols bool, servers, clients int) *land {
	t.Helper()
	w, e := world.New(symbols, servers, clients)
	if e != api.OK || w == nil {
		t.Fatalf("%d, %d: %v", servers, clients, e)
	}
	return &land{lands: w, t: t, servers: servers, clients: clients}
}

// hosts tells how many there are; so many principals there are, too.
func (l *land) hosts() int { return 1 + l.servers + l.clients }

// client gives the host of a client: of ann's, the first one, or of bob's.
func (l *land) client(user string) int {
	return 1 + l.servers + slices.Index([]string{"ann", "bob"}, user)
}

// user gives whose a client's host is.
func (l *land) user(host int) string { return []string{"ann", "bob"}[host-1-l.servers] }

// serverName gives the name of a server's principal.
func serverName(host int) string { return "host/s" + strconv.Itoa(host) + "@LAND" }

// does lets something happen, which is not refused.
func (l *land) does(e api.Event) {
	l.t.Helper()
	if err := l.Do(e); err != nil {
		l.t.Fatalf("%+v: %v", e, number(err))
	}
}

// refuses looks whether an event is refused so.
func (l *land) refuses(e api.Event, at string, why api.Errno) {
	l.t.Helper()
	if err := l.Do(e); !probe.IsFault(err, at, why) {
		l.t.Errorf("%+v: %#v, not %v at %s", e, err, why, at)
	}
}

// number gives an error's number.
func number(err error) api.Errno {
	var e api.Errno
	errors.As(err, &e)
	return e
}

// run gives a want of a user's, to run a command on a server, as its own account.
func (l *land) run(user string, server int, line string) api.Event {
	return l.wanted(user, server, api.Want{Service: api.SvcRun, Lines: []string{line}})
}

// wanted gives a want of a user's of a server; the server's name, and the user's own account, are put in where the want has none.
func (l *land) wanted(user string, server int, w api.Want) api.Event {
	if w.Server == "" {
		w.Server = serverName(server)
	}
	if w.Account == "" {
		w.Account = user
	}
	return api.Event{Kind: api.EvWant, Who: l.client(user), K: server, Want: w}
}

// tick lets a host's clock go on, so often.
func (l *land) tick(host, times int) {
	l.t.Helper()
	for range times {
		l.does(api.Event{Kind: api.EvTick, Who: host})
	}
}

// comes lets all come that is under way, in order, and what is sent meanwhile; it gives the errors that were told.
func (l *land) comes() []api.Errno {
	l.t.Helper()
	var told []api.Errno
	for n := 0; l.Len() > 0; n++ {
		if n > 20000 {
			l.t.Fatal("it doesn't end")
		}
		if err := l.Do(api.Event{Kind: api.EvDeliver}); err != nil {
			told = append(told, number(err))
		}
	}
	return told
}

// round lets all hosts tick once, in order, and all come.
func (l *land) round() []api.Errno {
	l.t.Helper()
	for host := range l.hosts() {
		l.tick(host, 1)
	}
	return l.comes()
}

// isDone lets rounds go by, up to so many, till the last want of a user's is done, and gives what became of it.
func (l *land) isDone(user string, rounds int) api.Got {
	l.t.Helper()
	for range rounds {
		if l.last(user).Done {
			break
		}
		l.round()
	}
	return l.last(user)
}

// last gives what became of the last want of a user's.
func (l *land) last(user string) api.Got {
	l.t.Helper()
	list := l.Got(l.client(user))
	if len(list) == 0 {
		l.t.Fatal(user + " wants nothing")
	}
	return list[len(list)-1]
}

// sends lets a host tick, and gives the only message that it sends, which is under way behind all others.
func (l *land) sends(host int) api.Krb {
	l.t.Helper()
	before := l.Len()
	l.tick(host, 1)
	if l.Len() != before+1 {
		l.t.Fatalf("%d mails more", l.Len()-before)
	}
	return l.lastSeen()
}

// lastSeen gives the last message that was sent.
func (l *land) lastSeen() api.Krb {
	l.t.Helper()
	list := l.Seen()
	if len(list) == 0 {
		l.t.Fatal("nothing was sent")
	}
	m, e := krb.Read(list[len(list)-1])
	if e != api.OK {
		l.t.Fatalf("%q", list[len(list)-1])
	}
	return m
}

// injects lets a message be under way to a host, as from another one; it gives the place at which it stands.
func (l *land) injects(m api.Krb, from, to int) int {
	l.t.Helper()
	l.does(api.Event{Kind: api.EvInject, Who: to, K: from, Data: write(l.t, m)})
	return l.Len() - 1
}

// write gives a message as bytes.
func write(t *testing.T, m api.Krb) []byte {
	t.Helper()
	data, e := krb.Write(m)
	if e != api.OK {
		t.Fatalf("%+v: %v", m, e)
	}
	return data
}

// state tells all that can be told of a world, but what was sent and sealed, which is told by its length; keys are left out, if that is asked for.
func (l *land) state(withKeys bool) string {
	var parts []any
	for host := -1; host <= l.hosts(); host++ {
		served, got := l.Served(host), l.Got(host)
		if !withKeys {
			for i := range served {
				served[i].Key = api.Key{}
			}
			for i := range got {
				got[i].Key = api.Key{}
			}
		}
		parts = append(parts, l.Now(host), served, l.Log(host), l.Nodes(host), got)
	}
	return fmt.Sprintf("%+v", append(parts, l.Len(), l.Thefts(), l.Entries(), len(l.Seen())))
}

// has tells whether a server has a file with these data.
func (l *land) has(server int, path, data string) bool {
	return slices.ContainsFunc(l.Nodes(server), func(n api.Node) bool { return n.Path == path && !n.Dir && string(n.Data) == data })
}

// isOpen tells how many sessions of a server aren't over.
func (l *land) isOpen(server int) int {
	n := 0
	for _, d := range l.Served(server) {
		if !d.Over {
			n++
		}
	}
	return n
}

// within tells whether a path is another one, or below it.
func within(path, top string) bool {
	return path == top || strings.HasPrefix(path, strings.TrimSuffix(top, "/")+"/")
}

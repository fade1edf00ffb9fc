package world_test

import (
	"slices"
	"testing"

	"gangway/api"
	"gangway/krb"
	"gangway/probe"
	"gangway/ticket"
)

// TestRun: the document's first example.
func TestRun(t *testing.T) {
	for _, symbols := range kinds {
		l := newLand(t, symbols, 1, 1)
		l.does(l.run("ann", 1, "whoami"))
		for _, kind := range []int{api.KrbAsReq, api.KrbTgsReq, api.KrbApReq, api.KrbData} {
			if m := l.sends(2); m.Kind != kind {
				t.Errorf("%+v, not of the kind %d", m, kind)
			}
			if told := l.comes(); len(told) != 0 {
				t.Errorf("%v", told)
			}
		}
		if g := l.last("ann"); !g.Done || string(g.Out) != "ann\n" || g.Code != 0 || g.Failed != 0 {
			t.Errorf("%+v", g)
		}
	}
}

// comesAgain lets data of somebody's come to a server once more, and gives what was sent for them.
func (l *land) comesAgain(from, server int, data []byte) (api.Krb, error) {
	l.t.Helper()
	l.does(api.Event{Kind: api.EvInject, Who: server, K: from, Data: data})
	err := l.Do(api.Event{Kind: api.EvDeliver, K: l.Len() - 1})
	return l.lastSeen(), err
}

// coming lets a user want a login, and gives the KrbApReq by which it has come.
func (l *land) coming(user string) []byte {
	l.t.Helper()
	l.does(l.wanted(user, 1, api.Want{Service: api.SvcLogin, Lines: []string{"whoami"}}))
	for !l.last(user).Confirmed {
		l.round()
	}
	seen := l.Seen()
	for n := len(seen) - 1; n >= 0; n-- {
		if m, e := krb.Read(seen[n]); e == api.OK && m.Kind == api.KrbApReq && m.Nonce == l.last(user).Nonce {
			return seen[n]
		}
	}
	l.t.Fatal("it hasn't come")
	return nil
}

// TestComesAgain: the document's second example: who comes once more by the same message, as long as the session is open, has the same answer; behind a restart none, whatever the time is.
func TestComesAgain(t *testing.T) {
	for _, symbols := range kinds {
		l := newLand(t, symbols, 2, 1)
		data := l.coming("ann")
		seen := l.Seen()
		first := slices.IndexFunc(seen, func(data []byte) bool { m, _ := krb.Read(data); return m.Kind == api.KrbApRep })
		answer, _ := krb.Read(seen[first])
		if m, err := l.comesAgain(3, 1, data); err != nil || !probe.SameKrb(m, answer) || len(l.Served(1)) != 1 {
			t.Errorf("%+v, %v", m, err)
		}
		if m, err := l.comesAgain(3, 2, data); !probe.IsFault(err, "ap", api.ErrSeal) || m.Kind != api.KrbError {
			t.Errorf("to another server: %+v, %v", m, err)
		}
		l.does(api.Event{Kind: api.EvRestart, Who: 1})
		for n := range 30 {
			why := api.ErrQuarantine
			if l.Now(1)-begun-3 > 10 { // the message was made at 1003
				why = api.ErrSkew
			}
			if m, err := l.comesAgain(3, 1, data); !probe.IsFault(err, "ap", why) || m.Code != int(why) || len(l.Served(1)) != 1 {
				t.Errorf("%d: %+v, %v", n, m, err)
			}
			l.tick(1, 1)
		}
	}
}

// TestClocks: the document's third example: a client whose clock is apart from the server's by up to 10 is let in; by 11 it is not, as long as what it sends is.
func TestClocks(t *testing.T) {
	for _, x := range []struct{ ann, host int }{{0, 0}, {10, 0}, {11, 0}, {0, 10}, {0, 15}} {
		l := newLand(t, true, 1, 1)
		l.tick(0, 7)
		l.tick(1, x.host)
		l.tick(2, x.ann)
		if x.ann == 11 { // the tickets' own clock is no nearer, so that these are valid
			l.tick(0, 4)
		}
		l.does(l.run("ann", 1, "whoami"))
		var told []api.Errno
		for range 4 {
			told = append(told, l.round()...)
		}
		apart := x.ann - x.host
		refused := slices.Contains(told, api.ErrSkew)
		if refused != (apart > 10 || apart < -10) || l.last("ann").Done == refused {
			t.Errorf("%+v: %v, %+v", x, told, l.last("ann"))
		}
		if apart != 11 {
			continue
		}
		for n := range 4 { // the same message comes again, and the server's clock goes on meanwhile
			l.round()
			if n == 0 && !l.last("ann").Done {
				t.Errorf("%+v", l.last("ann"))
			}
		}
	}
}

// TestComesAsAnn: the document's fourth example.
func TestComesAsAnn(t *testing.T) {
	for _, symbols := range kinds {
		l := newLand(t, symbols, 1, 2)
		whoami := l.wanted("bob", 1, api.Want{Service: api.SvcRun, Account: "ann", Lines: []string{"whoami"}})
		comes := func(e api.Event, user string) api.Got {
			l.does(e)
			return l.isDone(user, 6)
		}
		if g := comes(whoami, "bob"); g.Failed != int(api.ErrDenied) || len(g.Out) != 0 || len(l.Log(1)) != 0 {
			t.Errorf("%+v", g)
		}
		if g := comes(l.run("ann", 1, "put /users/ann/.k5login bob@LAND"), "ann"); g.Failed != 0 || g.Code != 0 {
			t.Errorf("%+v", g)
		}
		if g := comes(whoami, "bob"); g.Failed != 0 || string(g.Out) != "ann\n" {
			t.Errorf("%+v", g)
		}
		if g := comes(l.run("ann", 1, "whoami"), "ann"); g.Failed != int(api.ErrDenied) || len(l.Log(1)) != 2 {
			t.Errorf("%+v", g)
		}
	}
}

// TestStrangeTicket: the document's fifth example: who has seen a ticket, and seals an authenticator by a key of its own, is refused.
func TestStrangeTicket(t *testing.T) {
	for _, stolen := range []int{3, 2} { // bob's key, or the other server's
		l := newLand(t, true, 2, 1)
		if stolen == 3 {
			l = newLand(t, true, 1, 2)
		}
		seen, _ := krb.Read(l.coming("ann"))
		l.does(api.Event{Kind: api.EvSteal, Who: stolen})
		auth, _ := ticket.WriteAuth(api.Auth{Client: "ann@LAND", Time: l.Now(1), Nonce: 77})
		l.does(api.Event{Kind: api.EvForge, Who: stolen, K: api.UseAuth, Data: auth})
		box := []byte{83, 0, 0, 0, 0, 0, 0, 0, byte(len(l.Terms()) - 1)}
		m, err := l.comesAgain(0, 1, write(t, api.Krb{Kind: api.KrbApReq, Nonce: 77, Ticket: seen.Ticket, Sealed: box}))
		if !probe.IsFault(err, "ap", api.ErrSeal) || m.Code != int(api.ErrSeal) || m.Nonce != 77 || len(l.Served(1)) != 1 {
			t.Errorf("%+v, %v", m, err)
		}
	}
}

// TestStolenServer: with a server's key the enemy makes tickets, and comes to it as anybody; but also then it runs nothing, as the session's key is one that it can't seal under.
func TestStolenServer(t *testing.T) {
	l := newLand(t, true, 1, 1)
	l.does(api.Event{Kind: api.EvSteal, Who: 1})
	forge := func(use int, data []byte, e api.Errno) []byte {
		l.does(api.Event{Kind: api.EvForge, Who: 1, K: use, Data: data})
		return []byte{83, 0, 0, 0, 0, 0, 0, 0, byte(len(l.Terms()) - 1)}
	}
	text, e := ticket.Write(api.Ticket{Client: "ann@LAND", Server: serverName(1), Key: l.Entries()[1].Key, Start: begun, End: begun + 9})
	first := forge(api.UseTicket, text, e)
	text, e = ticket.WriteAuth(api.Auth{Client: "ann@LAND", Time: begun, Nonce: 77})
	m, err := l.comesAgain(0, 1, write(t, api.Krb{Kind: api.KrbApReq, Nonce: 77, Ticket: first, Sealed: forge(api.UseAuth, text, e)}))
	list := l.Served(1)
	if err != nil || m.Kind != api.KrbApRep || len(list) != 1 || list[0].Client != "ann@LAND" || list[0].Key != (api.Key{0xf5}) {
		t.Fatalf("%+v, %v, %+v", m, err, list)
	}
	if !l.knowledge().has[list[0].Key] {
		t.Error("the session's key isn't known")
	}
	said := forge(api.UsePriv, []byte("run ann whoami\n"), api.OK)
	if _, err := l.comesAgain(0, 1, write(t, api.Krb{Kind: api.KrbData, Nonce: 77, Sealed: said})); !probe.IsFault(err, "mail", api.ErrSeal) || len(l.Log(1)) != 0 {
		t.Errorf("%v, %+v", err, l.Log(1))
	}
}

// TestBoxElsewhere: the document's sixth example.
func TestBoxElsewhere(t *testing.T) {
	for _, symbols := range kinds {
		l := newLand(t, symbols, 1, 2)
		for _, user := range []string{"ann", "bob"} {
			l.does(l.wanted(user, 1, api.Want{Service: api.SvcLogin, Lines: []string{"whoami"}}))
		}
		for range 3 { // both come in the same round
			l.round()
		}
		l.tick(2, 1) // what ann says is under way
		seen := l.Seen()
		boxes := seen[len(seen)-l.Len():]
		for _, data := range boxes {
			m, _ := krb.Read(data)
			if m.Kind != api.KrbData || m.Nonce != l.last("ann").Nonce {
				t.Fatalf("%+v", m)
			}
			l.inject(1, 2, string(data))
			l.refuses(api.Event{Kind: api.EvDeliver, K: l.Len() - 1}, "take", api.ErrMatch)
			m.Nonce = l.last("bob").Nonce
			for to, at := range map[int]string{1: "mail", 3: "take"} {
				l.injects(m, 2, to)
				l.refuses(api.Event{Kind: api.EvDeliver, K: l.Len() - 1}, at, api.ErrSeal)
			}
		}
		if len(boxes) == 0 || len(l.Seen()) != len(seen) || l.isOpen(1) != 2 {
			t.Errorf("%d boxes, %d answers", len(boxes), len(l.Seen())-len(seen))
		}
		for _, user := range []string{"ann", "bob"} {
			if g := l.isDone(user, 6); !g.Done || string(g.Out) != "whoami\r\n"+user+"\n" {
				t.Errorf("%+v", g)
			}
		}
	}
}

// TestStolenUser: the document's seventh example: with bob's key the enemy knows what he says, and of ann's sessions nothing.
func TestStolenUser(t *testing.T) {
	l := newLand(t, true, 1, 2)
	l.does(api.Event{Kind: api.EvSteal, Who: 3})
	for _, user := range []string{"ann", "bob"} {
		l.does(l.run(user, 1, "echo secret of "+user))
		l.isDone(user, 6)
	}
	k := l.knowledge()
	if !k.reads("run bob echo secret of bob\n") || !k.has[l.last("bob").Key] || k.reads("secret of ann") || k.has[l.last("ann").Key] {
		t.Errorf("%q", k.texts)
	}
	grant, _ := ticket.WriteGrant(api.Grant{Server: "krbtgt/LAND@LAND", Key: l.Entries()[3].Key, Nonce: 3<<32 + 9, Start: begun, End: begun + 999})
	l.does(api.Event{Kind: api.EvForge, Who: 3, K: api.UseGrant, Data: grant})
	for _, nonce := range []uint64{2<<32 + 1, 2<<32 + 2} { // what is sealed for bob is nothing for ann
		box := []byte{83, 0, 0, 0, 0, 0, 0, 0, byte(len(l.Terms()) - 1)}
		l.injects(api.Krb{Kind: api.KrbRep, Nonce: nonce, Sealed: box}, 0, 2)
		if err := l.Do(api.Event{Kind: api.EvDeliver}); err == nil {
			t.Errorf("%d is taken", nonce)
		}
	}
}

// TestFalseServer: with ann's key the enemy gives her tickets, and is her server: what she says is known, and no server has it. So it matters that P26.5 and P26.6 ask for it that the client's key isn't stolen.
func TestFalseServer(t *testing.T) {
	l := newLand(t, true, 1, 1)
	l.does(api.Event{Kind: api.EvSteal, Who: 2})
	key := l.Entries()[2].Key
	answers := func(kind, use int, data []byte) { // to what ann sends
		m := l.sends(2)
		l.does(api.Event{Kind: api.EvDrop})
		l.does(api.Event{Kind: api.EvForge, Who: 2, K: use, Data: data})
		box := []byte{83, 0, 0, 0, 0, 0, 0, 0, byte(len(l.Terms()) - 1)}
		m = api.Krb{Kind: kind, Nonce: m.Nonce, Sealed: box}
		if kind == api.KrbRep {
			m.Ticket = []byte("any")
		}
		l.injects(m, 0, 2)
		l.does(api.Event{Kind: api.EvDeliver})
	}
	l.does(l.run("ann", 1, "echo secret"))
	for n, server := range []string{"krbtgt/LAND@LAND", serverName(1)} {
		grant, _ := ticket.WriteGrant(api.Grant{Server: server, Key: key, Nonce: 2<<32 + 1 + uint64(n), Start: begun, End: begun + 999})
		answers(api.KrbRep, api.UseGrant, grant)
	}
	auth, _ := ticket.WriteAuth(api.Auth{Client: serverName(1), Time: begun + 3, Nonce: 2<<32 + 3, Subkey: key})
	answers(api.KrbApRep, api.UseReply, auth)
	l.tick(2, 1)
	g := l.last("ann")
	if !g.Confirmed || g.Key != key || len(l.Served(1)) != 0 || !l.knowledge().reads("echo secret") {
		t.Errorf("%+v", g)
	}
}

// TestCopied: the document's eighth example: the same files, with the same modes; what is lost comes again with the next tick.
func TestCopied(t *testing.T) {
	for _, symbols := range kinds {
		for lost := range 40 { // of the copy's mails, in order
			l := newLand(t, symbols, 1, 1)
			l.does(l.wanted("ann", 1, api.Want{Service: api.SvcCopy, Path: "/src", To: "/users/ann/new", Modes: true}))
			for !l.last("ann").Confirmed {
				l.round()
			}
			for n := 0; !l.last("ann").Done && n < lost+400; n++ {
				switch {
				case n == lost && l.Len() > 0:
					l.does(api.Event{Kind: api.EvDrop})
				case l.Len() > 0:
					l.does(api.Event{Kind: api.EvDeliver})
				default:
					l.tick(1, 1)
					l.tick(2, 1)
				}
			}
			if g := l.last("ann"); !g.Done || g.Failed != 0 || g.Code != 0 || l.Now(2) > begun+6 {
				t.Fatalf("%d: %d, %+v", lost, l.Now(2), g)
			}
			var want []api.Node
			for _, x := range clientNodes() {
				if within(x.Path, "/src") {
					x.Path, x.Owner = "/users/ann/new"+x.Path[4:], "ann"
					want = append(want, x)
				}
			}
			all := append(append(serverNodes()[:3], want...), serverNodes()[3])
			if !probe.SameNodes(l.Nodes(1), all) || !probe.SameNodes(l.Nodes(2), clientNodes()) {
				t.Errorf("%d: %+v", lost, l.Nodes(1))
			}
		}
	}
}

// TestLogin: the document's ninth example.
func TestLogin(t *testing.T) {
	for _, symbols := range kinds {
		for _, service := range []int{api.SvcLogin, api.SvcTelnet} {
			l := newLand(t, symbols, 2, 2)
			l.does(l.wanted("bob", 2, api.Want{Service: service, Lines: []string{"whoami", "ls /users", "exit 3", "whoami"}}))
			g := l.isDone("bob", 6)
			if !g.Done || g.Code != 3 || string(g.Out) != "whoami\r\nbob\nls /users\r\nann\nbob\nexit 3\r\n" || len(l.Served(2)) != 1 || !slices.Equal(l.Served(2)[0].Lines, []string{"whoami", "ls /users", "exit 3"}) {
				t.Errorf("%+v, %+v", g, l.Served(2))
			}
		}
	}
}

// TestNobodyAnswers: the document's tenth example.
func TestNobodyAnswers(t *testing.T) {
	for _, symbols := range kinds {
		l := newLand(t, symbols, 1, 1)
		l.does(l.run("ann", 1, "whoami"))
		for n := range 60 {
			if l.last("ann").Done {
				t.Errorf("done behind %d ticks", n)
			}
			l.tick(2, 1)
			for l.Len() > 0 {
				l.does(api.Event{Kind: api.EvDrop})
			}
		}
		if g := l.last("ann"); !g.Done || g.Failed != int(api.ErrClosed) {
			t.Errorf("%+v", g)
		}
	}
}

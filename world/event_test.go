package world_test

import (
	"math"
	"slices"
	"strings"
	"testing"

	"gangway/api"
	"gangway/krb"
	"gangway/probe"
	"gangway/telopt"
)

const maxMails = 2000 // under way

// TestNoStep: P26.1, P26.2, what names no such host, server, client, mail or principal, or is of no kind, is refused, and changes nothing; but it is numbered.
func TestNoStep(t *testing.T) {
	far := []int{math.MinInt, -1 << 32, -1, 5, 6, 1 << 32, 1<<32 + 1, math.MaxInt}
	for n := range 4 {
		l := newLand(t, true, 1+n/2, 1+n%2)
		l.does(l.run("ann", 1, "whoami"))
		l.tick(l.client("ann"), 1) // a mail is under way
		want, told := l.state(true), 0
		refused := func(e api.Event) {
			t.Helper()
			told++
			l.refuses(e, "step", api.ErrStep)
		}
		for who := -2; who < 8; who++ {
			for k := -2; k < 8; k++ {
				isHost, toHost := who >= 0 && who < l.hosts(), k >= 0 && k < l.hosts()
				if !(isHost && who > l.servers && k >= 1 && k <= l.servers) {
					refused(api.Event{Kind: api.EvWant, Who: who, K: k, Want: l.run("ann", 1, "ls").Want})
				}
				if !isHost {
					refused(api.Event{Kind: api.EvTick, Who: who, K: k})
					refused(api.Event{Kind: api.EvForge, Who: who, K: k})
					refused(api.Event{Kind: api.EvSteal, Who: who, K: k})
				}
				if k != 0 {
					refused(api.Event{Kind: api.EvDeliver, Who: who, K: k})
					refused(api.Event{Kind: api.EvDrop, Who: who, K: k})
					refused(api.Event{Kind: api.EvCopy, Who: who, K: k})
				}
				if !isHost || !toHost {
					refused(api.Event{Kind: api.EvInject, Who: who, K: k, Data: []byte("data")})
				}
				if who < 1 || who > l.servers {
					refused(api.Event{Kind: api.EvRestart, Who: who, K: k})
				}
				for _, kind := range append(far, 0, 10) {
					if kind < 1 || kind > 9 {
						refused(api.Event{Kind: kind, Who: who, K: k, Data: []byte("data"), Want: l.run("ann", 1, "ls").Want})
					}
				}
			}
		}
		for _, k := range far {
			for kind := api.EvWant; kind <= api.EvSteal; kind++ {
				refused(api.Event{Kind: kind, Who: k, K: k})
			}
		}
		if l.state(true) != want {
			t.Errorf("%s, not %s", l.state(true), want)
		}
		l.does(api.Event{Kind: api.EvSteal, Who: l.hosts() - 1})
		if list := l.Thefts(); !slices.Equal(list, []api.Theft{{Name: l.Entries()[l.hosts()-1].Name, At: 2 + told}}) {
			t.Errorf("%+v, not at %d", list, 2+told)
		}
	}
}

// TestWant: P26.2, a client wants something of a server, or its error is told at want.
func TestWant(t *testing.T) {
	l := newLand(t, true, 2, 2)
	wrong := l.run("ann", 1, "two\nlines")
	l.refuses(wrong, "want", api.ErrArg)
	lacks := l.wanted("ann", 1, api.Want{Service: api.SvcCopy, Path: "/none", To: "/to"})
	l.refuses(lacks, "want", api.ErrNotFound)
	for n := range 4 {
		l.does(l.run("ann", 1+n%2, "whoami"))
	}
	l.refuses(l.run("ann", 1, "ls"), "want", api.ErrFull)
	l.refuses(lacks, "want", api.ErrNotFound)
	l.refuses(wrong, "want", api.ErrArg)
	wrong.K = 3
	l.refuses(wrong, "step", api.ErrStep)
	l.does(l.run("bob", 2, "whoami"))
	if l.Len() != 0 || len(l.Seen()) != 0 || len(l.Got(3)) != 4 || len(l.Got(4)) != 1 {
		t.Errorf("%+v, %+v", l.Got(3), l.Got(4))
	}
	for n, g := range l.Got(3) {
		if g.Want.Server != serverName(1+n%2) || g.Done {
			t.Errorf("%+v", g)
		}
	}
}

// TestWantOf: P26.2, what is wanted goes to the host that is named, whatever the server's name is.
func TestWantOf(t *testing.T) {
	l := newLand(t, true, 2, 1)
	l.does(l.wanted("ann", 1, api.Want{Service: api.SvcRun, Lines: []string{"whoami"}, Server: serverName(2)}))
	if g := l.isDone("ann", 60); g.Failed != int(api.ErrSeal) || len(l.Served(1))+len(l.Served(2)) != 0 {
		t.Errorf("%+v", g)
	}
	l.does(l.wanted("ann", 2, api.Want{Service: api.SvcRun, Lines: []string{"whoami"}, Server: serverName(2)}))
	if g := l.isDone("ann", 6); g.Failed != 0 || len(l.Served(1)) != 0 || len(l.Served(2)) != 1 {
		t.Errorf("%+v", g)
	}
}

// TestTick: P26.2, a tick is of one host's clock alone; then a client, or a server, does what its tick does, at this time.
func TestTick(t *testing.T) {
	l := newLand(t, true, 2, 2)
	for host := range 5 {
		l.tick(host, host*3+1)
	}
	for host := range 5 {
		if l.Now(host) != begun+int64(host)*3+1 {
			t.Errorf("%d: %d", host, l.Now(host))
		}
	}
	if l.Len() != 0 {
		t.Errorf("%d mails", l.Len())
	}
	l.does(l.run("bob", 2, "whoami"))
	m := l.sends(4)
	if want := (api.Krb{Kind: api.KrbAsReq, Client: "bob@LAND", Server: "krbtgt/LAND@LAND", Nonce: 4<<32 + 1, End: begun + 14 + 1000, Flags: 1}); !probe.SameKrb(m, want) {
		t.Errorf("%+v", m)
	}
	l.tick(3, 1)
	l.tick(0, 1)
	if l.Len() != 1 {
		t.Errorf("%d mails", l.Len())
	}
}

// TestTickOf: P26.2, a server's tick sends what isn't acknowledged, and ends what is idle; a client's is at its time, by which a ticket may be used, or not.
func TestTickOf(t *testing.T) {
	l := newLand(t, true, 1, 1)
	l.does(l.run("ann", 1, "whoami"))
	for !l.last("ann").Confirmed {
		for host := range 3 {
			l.tick(host, 1)
		}
		for l.Len() > 0 && !l.last("ann").Confirmed {
			l.does(api.Event{Kind: api.EvDeliver})
		}
	}
	l.tick(2, 1)
	for n := l.Len(); n > 0; n-- { // what the client says comes; what is said for it doesn't
		l.does(api.Event{Kind: api.EvDeliver})
	}
	for l.Len() > 0 {
		l.does(api.Event{Kind: api.EvDrop})
	}
	l.tick(1, 1)
	if m := l.lastSeen(); l.Len() == 0 || m.Kind != api.KrbData || m.Nonce != l.last("ann").Nonce {
		t.Errorf("%d, %+v", l.Len(), m)
	}
	l.tick(1, 38)
	if l.isOpen(1) != 1 {
		t.Errorf("%+v", l.Served(1))
	}
	l.tick(1, 1)
	if l.isOpen(1) != 0 {
		t.Errorf("%+v", l.Served(1))
	}
	l.tick(2, 900) // the want fails, and its ticket gets old
	l.does(l.run("ann", 1, "whoami"))
	l.tick(2, 1)
	if m := l.lastSeen(); m.Kind != api.KrbApReq {
		t.Errorf("%+v", m)
	}
	l.tick(2, 150)
	l.does(l.run("ann", 1, "whoami"))
	l.tick(2, 1)
	if m := l.lastSeen(); m.Kind != api.KrbAsReq {
		t.Errorf("%+v", m)
	}
}

// inject lets the enemy send a text.
func (l *land) inject(from, to int, text string) {
	l.t.Helper()
	l.does(api.Event{Kind: api.EvInject, Who: to, K: from, Data: []byte(text)})
}

// asks gives a question of ann's for the first ticket, with a Nonce.
func asks(nonce uint64) api.Krb {
	return api.Krb{Kind: api.KrbAsReq, Client: "ann@LAND", Server: "krbtgt/LAND@LAND", Nonce: nonce, End: 5000}
}

// TestDeliverFirst: P26.2, what comes to host 0 is answered to where it came from, at its time; of what is no question for a ticket nothing is sent.
func TestDeliverFirst(t *testing.T) {
	for _, symbols := range kinds {
		l := newLand(t, symbols, 2, 2)
		l.tick(0, 7)
		l.tick(1, 3)
		for host := range 5 {
			l.injects(asks(uint64(host)), host, 0)
			l.does(api.Event{Kind: api.EvDeliver})
			m := l.lastSeen()
			if l.Len() != 1 || m.Kind != api.KrbRep || m.Nonce != uint64(host) {
				t.Fatalf("%d, %+v", l.Len(), m)
			}
			why := map[int]api.Errno{0: api.ErrForm, 1: api.ErrForm, 2: api.ErrForm, 3: api.ErrMatch, 4: api.ErrMatch}[host]
			at := map[int]string{0: "mail", 1: "mail", 2: "mail", 3: "take", 4: "take"}[host]
			l.refuses(api.Event{Kind: api.EvDeliver}, at, why)
			if l.Len() != 0 || len(l.Seen()) != host+1 {
				t.Errorf("%d: %d, %d", host, l.Len(), len(l.Seen()))
			}
		}
		late := asks(1)
		late.End = begun + 6
		other := api.Krb{Kind: api.KrbTgsReq, Server: serverName(1), Nonce: 9, End: 5000, Ticket: []byte("no"), Sealed: []byte("no")}
		for m, code := range map[*api.Krb]api.Errno{&late: api.ErrExpired, &other: api.ErrSeal} {
			l.injects(*m, 1, 0)
			l.does(api.Event{Kind: api.EvDeliver})
			if !probe.SameKrb(l.lastSeen(), api.Krb{Kind: api.KrbError, Nonce: m.Nonce, Code: int(code)}) {
				t.Errorf("%+v", l.lastSeen())
			}
			l.does(api.Event{Kind: api.EvDrop})
		}
		late.End++
		l.injects(late, 1, 0)
		l.does(api.Event{Kind: api.EvDeliver})
		if m := l.lastSeen(); m.Kind != api.KrbRep {
			t.Errorf("%+v", m)
		}
	}
}

// TestDeliverNoQuestion: P26.2, data that are no message of the first two kinds come to host 0 to no end.
func TestDeliverNoQuestion(t *testing.T) {
	l := newLand(t, true, 1, 1)
	stream, _ := telopt.Write(telopt.Is(write(t, asks(1))))
	question := string(write(t, asks(1)))
	texts := []string{"", "data", question + "x", question[:len(question)-1], " " + question, string(stream), strings.Repeat("x", 5000)}
	for kind := api.KrbRep; kind <= api.KrbError; kind++ {
		m := api.Krb{Kind: kind, Nonce: 5}
		if kind == api.KrbError {
			m.Code = 66
		}
		texts = append(texts, string(write(t, m)))
	}
	for n, text := range texts {
		l.inject(1, 0, text)
		l.refuses(api.Event{Kind: api.EvDeliver}, "mail", api.ErrForm)
		if l.Len() != 0 || len(l.Seen()) != 0 {
			t.Errorf("%d: %q is answered", n, text)
		}
	}
}

// TestDeliverErrors: P26.2, an error of a server's, or a client's, is told in its place; what is sent beside it is under way.
func TestDeliverErrors(t *testing.T) {
	l := newLand(t, true, 2, 2)
	l.inject(0, 1, "data")
	l.inject(0, 3, "data")
	l.injects(api.Krb{Kind: api.KrbApReq, Nonce: 8}, 4, 2)
	l.injects(api.Krb{Kind: api.KrbData, Nonce: 8}, 4, 2)
	l.injects(api.Krb{Kind: api.KrbData, Nonce: 8}, 1, 4)
	l.refuses(api.Event{Kind: api.EvDeliver}, "mail", api.ErrForm)
	l.refuses(api.Event{Kind: api.EvDeliver}, "take", api.ErrForm)
	l.refuses(api.Event{Kind: api.EvDeliver}, "ap", api.ErrSeal)
	l.refuses(api.Event{Kind: api.EvDeliver}, "mail", api.ErrMatch)
	l.refuses(api.Event{Kind: api.EvDeliver}, "take", api.ErrMatch)
	if !probe.SameKrb(l.lastSeen(), api.Krb{Kind: api.KrbError, Nonce: 8, Code: int(api.ErrSeal)}) || l.Len() != 1 {
		t.Errorf("%+v", l.lastSeen())
	}
	l.refuses(api.Event{Kind: api.EvDeliver}, "take", api.ErrMatch) // it goes back to the host 4, which has no want of this Nonce
	if l.Len() != 0 || len(l.Seen()) != 1 {
		t.Errorf("%d, %d", l.Len(), len(l.Seen()))
	}
}

// TestOrder: P26.2, P26.3, mails are under way in order; any may come, be lost, or be doubled; what is sent, or doubled, stands behind all others.
func TestOrder(t *testing.T) {
	l, dice := newLand(t, true, 1, 1), probe.NewDice(5)
	var nonces []uint64 // of what is under way
	next := uint64(100)
	for range 3000 {
		k := 0
		if len(nonces) > 0 {
			k = dice.Roll(len(nonces))
		}
		switch n := dice.Roll(7); {
		case n < 3 || len(nonces) == 0:
			next++
			nonces = append(nonces, next)
			l.injects(asks(next), 2, 0)
		case n == 3:
			l.does(api.Event{Kind: api.EvDrop, K: k, Who: -5})
			nonces = slices.Delete(nonces, k, k+1)
		case n == 4:
			l.does(api.Event{Kind: api.EvCopy, K: k, Who: -5})
			nonces = append(nonces, nonces[k])
		default:
			l.does(api.Event{Kind: api.EvDeliver, K: k, Who: -5})
			if m := l.lastSeen(); m.Nonce != nonces[k] || m.Kind != api.KrbRep {
				t.Fatalf("%+v, not %d", m, nonces[k])
			}
			nonces = slices.Delete(nonces, k, k+1)
			l.refuses(api.Event{Kind: api.EvDeliver, K: len(nonces)}, "take", api.ErrMatch) // the answer
		}
		if l.Len() != len(nonces) {
			t.Fatalf("%d, not %d", l.Len(), len(nonces))
		}
	}
}

// TestCopy: P26.2, what is doubled is the same in all: where it is from, where it goes to, and its data.
func TestCopy(t *testing.T) {
	l := newLand(t, true, 2, 1)
	l.injects(asks(7), 2, 0)
	l.does(api.Event{Kind: api.EvCopy})
	l.does(api.Event{Kind: api.EvCopy, K: 1})
	for range 3 {
		l.does(api.Event{Kind: api.EvDeliver})
		if m := l.lastSeen(); m.Nonce != 7 || m.Kind != api.KrbRep {
			t.Errorf("%+v", m)
		}
	}
	for range 3 {
		l.refuses(api.Event{Kind: api.EvDeliver}, "mail", api.ErrForm) // to the server, at host 2
	}
}

// TestInject: P26.2, what is injected is under way as if from the host that is told, and isn't Seen; it has at most 5000 bytes.
func TestInject(t *testing.T) {
	l := newLand(t, true, 2, 2)
	for from := range 5 {
		for to := range 5 {
			l.inject(from, to, strings.Repeat("x", 5000))
			l.inject(from, to, "")
			l.refuses(api.Event{Kind: api.EvInject, Who: to, K: from, Data: make([]byte, 5001)}, "step", api.ErrLong)
		}
	}
	l.refuses(api.Event{Kind: api.EvInject, Who: 5, K: 0, Data: make([]byte, 5001)}, "step", api.ErrStep)
	l.refuses(api.Event{Kind: api.EvInject, Who: 0, K: 5, Data: make([]byte, 5001)}, "step", api.ErrStep)
	if l.Len() != 50 || len(l.Seen()) != 0 {
		t.Errorf("%d, %d", l.Len(), len(l.Seen()))
	}
	told := l.comes()
	if len(told) != 50 || slices.ContainsFunc(told, func(e api.Errno) bool { return e != api.ErrForm }) || len(l.Seen()) != 0 {
		t.Errorf("%v, %d", told, len(l.Seen()))
	}
}

// fill lets so many mails be under way that come to nothing.
func (l *land) fill(n int) {
	l.t.Helper()
	for l.Len() < n {
		l.inject(0, 1, "data")
	}
}

// TestFull: P26.2, with 2000 mails under way none is doubled, or injected; what hosts send is lost, but Seen; of several mails those that there is room for are under way.
func TestFull(t *testing.T) {
	for _, symbols := range kinds {
		l := newLand(t, symbols, 1, 1)
		l.injects(asks(1), 2, 0)
		l.fill(maxMails)
		l.refuses(api.Event{Kind: api.EvCopy, K: 5}, "step", api.ErrFull)
		l.refuses(api.Event{Kind: api.EvCopy, K: maxMails}, "step", api.ErrStep)
		l.refuses(api.Event{Kind: api.EvInject, Who: 1, K: 0, Data: []byte("x")}, "step", api.ErrFull)
		l.refuses(api.Event{Kind: api.EvInject, Who: 1, K: 0, Data: make([]byte, 5001)}, "step", api.ErrFull)
		l.refuses(api.Event{Kind: api.EvInject, Who: 3, K: 0, Data: make([]byte, 5001)}, "step", api.ErrStep)
		for range 3 {
			l.does(l.run("ann", 1, "whoami"))
		}
		l.tick(2, 1)
		if l.Len() != maxMails || len(l.Seen()) != 3 {
			t.Errorf("%d, %d", l.Len(), len(l.Seen()))
		}
		l.does(api.Event{Kind: api.EvDeliver}) // for what comes there is room to answer
		if l.Len() != maxMails || len(l.Seen()) != 4 {
			t.Errorf("%d, %d", l.Len(), len(l.Seen()))
		}
		l.refuses(api.Event{Kind: api.EvDeliver, K: maxMails - 1}, "take", api.ErrMatch)
		l.does(api.Event{Kind: api.EvDrop})
		l.tick(2, 1)
		if l.Len() != maxMails || len(l.Seen()) != 7 {
			t.Errorf("%d, %d", l.Len(), len(l.Seen()))
		}
		for n := range 2 { // those of the first two wants are under way, in order; the same ones were lost a tick ahead
			l.does(api.Event{Kind: api.EvDeliver, K: maxMails - 2})
			if m := l.lastSeen(); m.Nonce != 2<<32+1+uint64(n) || m.Kind != api.KrbRep {
				t.Errorf("%d: %+v", n, m)
			}
		}
	}
}

// TestForge: P26.2, what the enemy forges is sealed under a key that it has stolen, for the use that is told, and nothing else happens.
func TestForge(t *testing.T) {
	l := newLand(t, true, 2, 2)
	for who := range 5 {
		l.refuses(api.Event{Kind: api.EvForge, Who: who, K: 3, Data: []byte("box")}, "step", api.ErrDenied)
		l.refuses(api.Event{Kind: api.EvForge, Who: who, K: 3, Data: make([]byte, 2001)}, "step", api.ErrDenied)
	}
	if len(l.Terms()) != 0 {
		t.Errorf("%+v", l.Terms())
	}
	l.refuses(api.Event{Kind: api.EvForge, Who: 5}, "step", api.ErrStep)
	n := 0
	for who := range 5 {
		l.does(api.Event{Kind: api.EvSteal, Who: who, K: -7})
		for use := range 10 {
			for _, text := range []string{"box", "", strings.Repeat("x", 2000)} {
				l.does(api.Event{Kind: api.EvForge, Who: who, K: use - 1, Data: []byte(text)})
				terms := l.Terms()
				n++
				if last := terms[len(terms)-1]; len(terms) != n || last.Key != (api.Key{0xf1, 15: byte(who)}) || last.Usage != use-1 || string(last.Plain) != text {
					t.Errorf("%+v", last)
				}
			}
		}
		l.refuses(api.Event{Kind: api.EvForge, Who: who, K: 3, Data: make([]byte, 2001)}, "step", api.ErrLong)
		if who < 4 {
			l.refuses(api.Event{Kind: api.EvForge, Who: who + 1, K: 3}, "step", api.ErrDenied)
		}
	}
	if l.Len() != 0 || len(l.Seen()) != 0 || len(l.Terms()) != n {
		t.Errorf("%d, %d, %d", l.Len(), len(l.Seen()), len(l.Terms()))
	}
}

// TestForgeSums: P26.2, also by sums: a box that was forged is one that its host opens, and numbers go on behind it.
func TestForgeSums(t *testing.T) {
	one, two := newLand(t, false, 1, 1), newLand(t, false, 1, 1)
	for _, l := range []*land{one, two} {
		l.refuses(api.Event{Kind: api.EvForge, Who: 1, K: 3}, "step", api.ErrDenied)
		l.does(api.Event{Kind: api.EvSteal, Who: 1})
		l.refuses(api.Event{Kind: api.EvForge, Who: 1, K: 3, Data: make([]byte, 2001)}, "step", api.ErrLong)
	}
	two.does(api.Event{Kind: api.EvForge, Who: 1, K: 3})
	for _, l := range []*land{one, two} {
		l.injects(asks(1), 1, 0)
		l.does(api.Event{Kind: api.EvDeliver})
	}
	a, b := one.lastSeen(), two.lastSeen()
	if a.Ticket[7] != 0 || b.Ticket[7] != 1 || a.Sealed[7] != 1 || b.Sealed[7] != 2 {
		t.Errorf("%x, %x", a, b)
	}
}

// TestRestart: P26.2, a server's restart is at its time: its sessions are over, and for a while nobody comes.
func TestRestart(t *testing.T) {
	l := newLand(t, true, 2, 1)
	l.tick(2, 8)
	l.does(l.wanted("ann", 1, api.Want{Service: api.SvcLogin}))
	l.does(l.wanted("ann", 2, api.Want{Service: api.SvcLogin}))
	for range 3 {
		l.round()
	}
	before := l.state(true)
	l.does(api.Event{Kind: api.EvRestart, Who: 2, K: -5})
	if l.isOpen(1) != 1 || l.isOpen(2) != 0 || len(l.Served(2)) != 1 || l.Now(2) != begun+11 || l.Len() != 0 {
		t.Errorf("%s, behind %s", l.state(true), before)
	}
	for _, x := range []struct {
		ticks  int // of the client's clock, so that its time is above the restart's by so much
		failed api.Errno
	}{{17, api.ErrQuarantine}, {1, api.OK}} {
		l.tick(3, x.ticks)
		l.does(l.run("ann", 2, "whoami"))
		l.tick(3, 1)
		told := l.Len()
		l.tick(2, 8)
		for range told {
			l.Do(api.Event{Kind: api.EvDeliver})
		}
		if m := l.lastSeen(); (x.failed == api.OK) != (m.Kind == api.KrbApRep) || m.Code != int(x.failed) {
			t.Errorf("%d, %d: %+v, not %v", l.Now(2), l.Now(3), m, x.failed)
		}
		l.comes()
	}
}

// TestSteal: P26.2, P26.3, each theft is told, with the event's number, also of a key that was stolen before; it changes nothing else.
func TestSteal(t *testing.T) {
	for _, symbols := range kinds {
		l := newLand(t, symbols, 2, 2)
		var want []api.Theft
		n := 0
		for _, who := range []int{4, 0, 4, 3, 1, 2, 2} {
			l.does(api.Event{Kind: api.EvSteal, Who: who, K: -1})
			want = append(want, api.Theft{Name: l.Entries()[who].Name, At: n})
			l.refuses(api.Event{Kind: api.EvSteal, Who: 5}, "step", api.ErrStep)
			l.tick(0, who)
			n += 2 + who
			if list := l.Thefts(); !slices.Equal(list, want) {
				t.Errorf("%+v, not %+v", list, want)
			}
		}
		if l.Len()+len(l.Seen())+len(l.Terms()) != 0 || !slices.Equal(l.Entries(), principals(2, 2)) {
			t.Error(l.state(true))
		}
	}
}

// TestSeen: P26.3, all that hosts have sent is Seen, in order, also what is lost, or has come; what is doubled isn't Seen once more.
func TestSeen(t *testing.T) {
	l := newLand(t, true, 1, 2)
	l.does(l.run("ann", 1, "whoami"))
	l.does(l.run("bob", 1, "whoami"))
	l.tick(2, 1)
	l.tick(3, 1)
	l.inject(0, 1, "data")
	l.does(api.Event{Kind: api.EvCopy})
	l.does(api.Event{Kind: api.EvDrop, K: 1})
	l.does(api.Event{Kind: api.EvDeliver})
	l.does(api.Event{Kind: api.EvDeliver, K: 1}) // the one that is doubled
	want := []api.Krb{{Kind: api.KrbAsReq, Nonce: 2<<32 + 1}, {Kind: api.KrbAsReq, Nonce: 3<<32 + 1}, {Kind: api.KrbRep, Nonce: 2<<32 + 1}, {Kind: api.KrbRep, Nonce: 2<<32 + 1}}
	list := l.Seen()
	for n, data := range list {
		if m, e := krb.Read(data); e != api.OK || len(list) != len(want) || m.Kind != want[n].Kind || m.Nonce != want[n].Nonce {
			t.Errorf("%d: %+v", n, m)
		}
	}
	if l.Len() != 3 || len(list) != len(want) {
		t.Errorf("%d, %d", l.Len(), len(list))
	}
}

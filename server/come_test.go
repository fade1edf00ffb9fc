package server_test

import (
	"bytes"
	"testing"

	"gangway/api"
	"gangway/apx"
	"gangway/krb"
	"gangway/probe"
	"gangway/replay"
	"gangway/seal"
	"gangway/ticket"
)

// TestCome: P24.2, who comes gets what layer 13 answers, sent to the host that it came from; the session has the key of that.
func TestCome(t *testing.T) {
	for _, symbols := range kinds {
		for _, from := range []int{0, 1, 5, -1, 1<<63 - 1} {
			s, twin := newSite(t, symbols), newSite(t, symbols)
			g, same := s.asks(t, "ann@LAND", begun+1000, 77, from), twin.asks(t, "ann@LAND", begun+1000, 77, from)
			m, e := krb.Read(same.asked)
			session, answer, err := apx.Accept(twin.sealer, twin.own, replay.New(begun), must(t, m, e), begun)
			want, e := krb.Write(answer)
			if got := one(t, s.takes(t, g.asked, from), from); err != nil || !bytes.Equal(got, must(t, want, e)) || !probe.Alike(s.sealer, twin.sealer) {
				t.Errorf("%q, not %q, %v", got, want, err)
			}
			list := s.Served()
			if len(list) != 1 || !sameServed(list[0], api.Served{Key: session.Key, Client: "ann@LAND", Nonce: 77}) || s.Open() != 1 {
				t.Errorf("%+v", list)
			}
		}
	}
}

// TestComeAgain: P24.2, the same bytes again get the same answer, as long as the session is open: whenever they come, how many there are, and wherever they come from.
func TestComeAgain(t *testing.T) {
	for _, symbols := range kinds {
		s := newSite(t, symbols)
		g := s.asks(t, "ann@LAND", begun+20, 77, 5)
		answer := one(t, s.takes(t, g.asked, 5), 5)
		g.finish(t, answer)
		for range 5 {
			s.comes(t, "bob@LAND")
		}
		drawn, terms := s.sealer.Drawn(), len(s.sealer.Terms())
		for i, now := range []int64{begun, begun + 11, begun + 500, -1} {
			s.now = now
			for _, from := range []int{5, 6} {
				if again := one(t, s.takes(t, g.asked, from), from); !bytes.Equal(again, answer) {
					t.Errorf("%d: %q, not %q", i, again, answer)
				}
			}
		}
		if s.sealer.Drawn() != drawn || len(s.sealer.Terms()) != terms || s.Open() != 6 || len(s.Served()) != 6 {
			t.Errorf("%d drawn, %d sealed, %d open", s.sealer.Drawn(), len(s.sealer.Terms()), s.Open())
		}
		s.now = begun
		g.types(t, "run ann whoami\n")
		g.puts(t, "ann\n", "", "0")
		s.takes(t, g.asked, 5) // it is done, but still open
		s.Tick(begun)
		s.refuses(t, g.asked, "ap", api.ErrReplay, true)
	}
}

// TestFull: P24.2, no more than six sessions are open; that is looked at ahead of all but whether it is one of them.
func TestFull(t *testing.T) {
	for _, symbols := range kinds {
		s := newSite(t, symbols)
		var all []*guest
		for range 6 {
			all = append(all, s.comes(t, "ann@LAND"))
		}
		s.refuses(t, s.asks(t, "bob@LAND", begun+1000, 77, 3).asked, "mail", api.ErrFull, true)
		s.refuses(t, s.asks(t, "bob@LAND", begun+1000, 3, 3).asked, "mail", api.ErrFull, true) // of the third one's Nonce
		s.refuses(t, s.asks(t, "bob@LAND", begun-30, 77, 3).asked, "mail", api.ErrFull, true)
		if s.Open() != 6 || len(s.Served()) != 6 {
			t.Errorf("%d", s.Open())
		}
		all[2].types(t, "run ann whoami\n")
		s.refuses(t, s.asks(t, "bob@LAND", begun+1000, 77, 3).asked, "mail", api.ErrFull, true)
		s.Tick(begun)
		s.refuses(t, s.asks(t, "bob@LAND", begun+1000, 2, 3).asked, "mail", api.ErrMatch, true)
		s.comes(t, "bob@LAND")
		s.refuses(t, s.asks(t, "bob@LAND", begun+1000, 77, 3).asked, "mail", api.ErrFull, true)
	}
}

// TestSameNonce: P24.2, no two open sessions have one Nonce; that is looked at ahead of who comes, and counts no longer once the session is over.
func TestSameNonce(t *testing.T) {
	for _, symbols := range kinds {
		s := newSite(t, symbols)
		g := s.comes(t, "ann@LAND")
		s.refuses(t, s.asks(t, "bob@LAND", begun+1000, 1, 3).asked, "mail", api.ErrMatch, true)
		s.refuses(t, s.asks(t, "ann@LAND", begun-30, 1, 3).asked, "mail", api.ErrMatch, true)
		s.refuses(t, s.asks(t, "ann@LAND", begun-30, 2, 3).asked, "ap", api.ErrExpired, true)
		g.types(t, "run ann whoami\n")
		s.Tick(begun)
		again := s.asks(t, "bob@LAND", begun+1000, 1, 3)
		again.finish(t, one(t, s.takes(t, again.asked, 3), 3))
		again.types(t, "run bob whoami\n")
		again.puts(t, "bob\n", "", "0")
		g.puts(t, "ann\n", "", "0")
	}
}

// coming is a KrbApReq with all that is sealed in it, to be made wrong.
type coming struct {
	ticket       api.Ticket
	auth         api.Auth
	hostKey, key api.Key // under which they are sealed
	nonce        uint64
}

// right gives one that is right.
func right() coming {
	key := api.Key{9}
	return coming{
		ticket:  api.Ticket{Client: "ann@LAND", Server: "host/s1@LAND", Key: key, Start: begun - 50, End: begun + 50},
		auth:    api.Auth{Client: "ann@LAND", Time: begun, Nonce: 77},
		hostKey: entry().Key, key: key, nonce: 77,
	}
}

// bytes gives its bytes, sealed by a sealer.
func (c coming) bytes(t *testing.T, s *seal.Sealer) []byte {
	t.Helper()
	box, e := ticket.Seal(s, c.hostKey, c.ticket)
	must(t, box, e)
	plain, e := ticket.WriteAuth(c.auth)
	auth, e2 := s.Seal(c.key, api.UseAuth, must(t, plain, e))
	data, e := krb.Write(api.Krb{Kind: api.KrbApReq, Nonce: c.nonce, Ticket: box, Sealed: must(t, auth, e2)})
	return must(t, data, e)
}

// TestComeErrors: P24.2, what layer 13 refuses is told by its number, in its place; nobody has come then.
func TestComeErrors(t *testing.T) {
	for _, symbols := range kinds {
		s := newSite(t, symbols)
		refuses := func(why api.Errno, wrong func(c *coming)) {
			t.Helper()
			c := right()
			wrong(&c)
			s.refuses(t, c.bytes(t, s.sealer), "ap", why, true)
			if s.Open() != 0 || len(s.Served()) != 0 {
				t.Errorf("%+v", s.Served())
			}
		}
		refuses(api.ErrSeal, func(c *coming) { c.hostKey[3]++ })
		refuses(api.ErrMatch, func(c *coming) { c.ticket.Server = "host/s2@LAND" })
		refuses(api.ErrEarly, func(c *coming) { c.ticket.Start = begun + 11 })
		refuses(api.ErrExpired, func(c *coming) { c.ticket.End = begun - 11 })
		refuses(api.ErrSeal, func(c *coming) { c.key[3]++ })
		refuses(api.ErrMatch, func(c *coming) { c.auth.Client = "bob@LAND" })
		refuses(api.ErrMatch, func(c *coming) { c.auth.Nonce++ })
		refuses(api.ErrMatch, func(c *coming) { c.nonce = 0 })
		refuses(api.ErrSkew, func(c *coming) { c.auth.Time -= 11 })
		refuses(api.ErrSkew, func(c *coming) { c.auth.Time += 11 })
		m := api.Krb{Kind: api.KrbApReq, Nonce: 7, Ticket: []byte("none"), Sealed: []byte("none")}
		data, e := krb.Write(m)
		s.refuses(t, must(t, data, e), "ap", api.ErrSeal, true)
		data = right().bytes(t, s.sealer)
		one(t, s.takes(t, data, 3), 3)
		if s.Open() != 1 {
			t.Errorf("%d", s.Open())
		}
	}
}

// TestManyCome: P24.2, the replay cache has room for sixteen, whatever has become of their sessions; its error isn't that of too many sessions.
func TestManyCome(t *testing.T) {
	s := newSite(t, true)
	for i := range 16 {
		g := s.comes(t, "ann@LAND")
		g.types(t, "run ann whoami\n")
		s.Tick(begun)
		if s.Open() != 0 || len(s.Served()) != i+1 {
			t.Fatalf("%d: %d", i, s.Open())
		}
	}
	s.refuses(t, s.asks(t, "ann@LAND", begun+1000, 77, 3).asked, "ap", api.ErrFull, true)
	s.now = begun + 11
	s.comes(t, "ann@LAND")
}

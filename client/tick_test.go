package client_test

import (
	"math"
	"testing"

	"gangway/api"
	"gangway/apx"
	"gangway/client"
	"gangway/krb"
	"gangway/link"
	"gangway/probe"
	"gangway/seal"
	"gangway/telopt"
	"gangway/ticket"
	"gangway/tree"
)

// box seals a grant under a key, for a use.
func (s *site) box(t *testing.T, key api.Key, use int, g api.Grant) []byte {
	t.Helper()
	text, e := ticket.WriteGrant(g)
	if e != api.OK {
		t.Fatalf("%+v: %v", g, e)
	}
	box, _ := s.sealer.Seal(key, use, text)
	return box
}

// grant gives what is answered to a question: a ticket of any bytes, and its grant, sealed under a key.
func (s *site) grant(t *testing.T, key api.Key, box []byte, g api.Grant) api.Krb {
	t.Helper()
	return api.Krb{Kind: api.KrbRep, Nonce: g.Nonce, Ticket: box, Sealed: s.box(t, key, api.UseGrant, g)}
}

// auth gives the authenticator in a box.
func (s *site) auth(t *testing.T, key api.Key, box []byte) api.Auth {
	t.Helper()
	text, e := s.sealer.Open(key, api.UseAuth, box)
	if e != api.OK {
		t.Fatal(e)
	}
	a, e := ticket.ReadAuth(text)
	if e != api.OK {
		t.Fatal(e)
	}
	return a
}

// TestWay: P25.1, P25.3, a want goes from question to question, each with a Nonce of its own, and then to the server: just these messages; nothing is drawn but for an authenticator.
func TestWay(t *testing.T) {
	for _, symbols := range kinds {
		s := newSite(symbols)
		if list := s.Tick(s.now); len(list) != 0 {
			t.Errorf("%+v", list)
		}
		s.wants(t, run(blue, "ls"))
		first := s.sends(t, api.KrbAsReq, 0)
		if want := (api.Krb{Kind: api.KrbAsReq, Client: "ann@LAND", Server: main, Nonce: before + 1, End: begun + 1000, Flags: 1}); !probe.SameKrb(first, want) || s.sealer.Drawn() != 0 {
			t.Errorf("%+v", first)
		}
		key := api.Key{9}
		s.gets(t, s.grant(t, ann().Key, []byte("main's"), api.Grant{Server: main, Key: key, Nonce: before + 1, End: 5000, Flags: 3}))
		s.now += 100
		next := s.sends(t, api.KrbTgsReq, 0)
		if want := (api.Krb{Kind: api.KrbTgsReq, Server: blue, Nonce: before + 2, End: begun + 1100, Ticket: []byte("main's"), Sealed: next.Sealed}); !probe.SameKrb(next, want) {
			t.Errorf("%+v", next)
		}
		a := s.auth(t, key, next.Sealed)
		if want := (api.Auth{Client: "ann@LAND", Time: begun + 100, Nonce: before + 2, Subkey: seal.New(symbols, api.Key{0xf2, 15: 1}).Fresh()}); a != want || s.sealer.Drawn() != 1 {
			t.Errorf("%+v, not %+v", a, want)
		}
		cred := api.Cred{Client: "ann@LAND", Ticket: []byte("blue's"), Grant: api.Grant{Server: blue, Key: api.Key{8}, Nonce: before + 2, End: 5000}}
		s.gets(t, s.grant(t, key, cred.Ticket, cred.Grant))
		twin := newSite(symbols)
		twin.sealer.Fresh()
		for range 3 { // two grants and an authenticator are sealed
			twin.sealer.Seal(api.Key{}, 0, nil)
		}
		want, _, err := apx.Make(twin.sealer, cred, begun+100, before+3)
		if got := s.sends(t, api.KrbApReq, place); err != nil || !probe.SameKrb(got, want) || s.sealer.Drawn() != 2 {
			t.Errorf("%+v, not %+v", got, want)
		}
		s.became(t, api.Got{Want: run(blue, "ls")})
	}
}

// TestNumber: P25.1, the Nonces of a client begin above its number times 2^32, as numbers of 64 bits go round.
func TestNumber(t *testing.T) {
	for number, want := range map[int]uint64{0: 1, 1: 1<<32 + 1, 2: 2<<32 + 1, -1: 0xffffffff00000001, 1<<32 - 1: 0xffffffff00000001, 1 << 32: 1, 1<<33 + 5: 5<<32 + 1, math.MinInt: 1, math.MaxInt: 0xffffffff00000001} {
		s := newSite(true)
		s.host = client.New(s.sealer, ann(), main, s.files, number)
		for n := range uint64(4) {
			s.wants(t, run(blue, "ls"))
			list := s.ticks(t, 0)
			if uint64(len(list)) != n+1 || list[n].Nonce != want+n {
				t.Errorf("%d: %+v, not %d", number, list, want+n)
			}
		}
	}
}

// same looks whether a tick sends just the mail that was sent before.
func (s *site) same(t *testing.T, now int64, was []api.Mail) {
	t.Helper()
	drawn := s.sealer.Drawn()
	if list := s.Tick(now); len(was) != 1 || !probe.SameMails(list, was) || s.sealer.Drawn() != drawn {
		t.Errorf("at %d: %+v, not %+v", now, list, was)
	}
}

// anew looks whether a tick sends another mail of the kind, with the next Nonce, and gives it.
func (s *site) anew(t *testing.T, now int64, kind int, nonce uint64) []api.Mail {
	t.Helper()
	list := s.Tick(now)
	to := 0
	if kind == api.KrbApReq {
		to = place
	}
	if m := read(t, list, to); len(m) != 1 || m[0].Kind != kind || m[0].Nonce != nonce {
		t.Fatalf("at %d: %+v, not %d", now, m, nonce)
	}
	return list
}

// TestAgain: P25.3, what was sent last is sent once more, up to 4 behind when it was made, but not ahead of that.
func TestAgain(t *testing.T) {
	for _, symbols := range kinds {
		for _, w := range []api.Want{run(blue, "ls"), {Service: api.SvcTelnet, Server: blue, Account: "ann"}, {Service: api.SvcLogin, Server: blue, Account: "ann"}} {
			s, nonce := newSite(symbols), uint64(before)
			s.wants(t, w)
			for _, kind := range []int{api.KrbAsReq, api.KrbTgsReq, api.KrbApReq} {
				var last []api.Mail
				for range 2 {
					nonce++
					last = s.anew(t, s.now, kind, nonce)
					for _, more := range []int64{0, 1, 4, 2, 4, 0} {
						s.same(t, s.now+more, last)
					}
					s.now += 5
				}
				s.now -= 6 // an earlier time than that at which the last one was made
				nonce++
				last = s.anew(t, s.now, kind, nonce)
				s.same(t, s.now+4, last)
				s.now += 5
				nonce++
				last = s.anew(t, s.now, kind, nonce)
				if kind != api.KrbApReq {
					s.gets(t, s.answer(t, read(t, last, 0)[0]))
				}
			}
		}
	}
}

// TestSentLast: P25.3, a question is sent once more only if nothing else was sent for the want in between; another want's plays no part.
func TestSentLast(t *testing.T) {
	s := newSite(true)
	s.wants(t, run(blue, "ls"))
	s.anew(t, begun, api.KrbAsReq, before+1)
	key := api.Key{9}
	s.gets(t, s.grant(t, ann().Key, []byte("main's"), api.Grant{Server: main, Key: key, Nonce: before + 1, End: begun + 1}))
	s.anew(t, begun+1, api.KrbTgsReq, before+2)
	as := s.anew(t, begun+2, api.KrbAsReq, before+3) // the ticket for main can't be used any more
	s.same(t, begun+3, as)
	s.anew(t, begun+1, api.KrbTgsReq, before+4) // at this time it could
	s.wants(t, run(blue, "ls"))
	list := s.Tick(begun + 2)
	if m := read(t, list, 0); len(m) != 2 || m[0].Nonce != before+5 || m[1].Nonce != before+6 || m[0].Kind != api.KrbAsReq || m[1].Kind != api.KrbAsReq {
		t.Fatalf("%+v", m)
	}
	if again := s.Tick(begun + 3); !probe.SameMails(again, list) {
		t.Errorf("%+v, not %+v", again, list)
	}
	later := read(t, s.Tick(begun+7), 0)
	if len(later) != 2 || later[0].Nonce != before+7 || later[1].Nonce != before+8 {
		t.Errorf("%+v", later)
	}
}

// TestTickets: P25.3, a ticket is used up to its End, and asked for behind it: that for main first, whatever else there is.
func TestTickets(t *testing.T) {
	s, key := newSite(true), api.Key{9}
	s.wants(t, run(blue, "ls"))
	s.sends(t, api.KrbAsReq, 0)
	s.gets(t, s.grant(t, ann().Key, []byte("main's"), api.Grant{Server: main, Key: key, Nonce: before + 1, End: begun + 200}))
	s.sends(t, api.KrbTgsReq, 0)
	s.gets(t, s.grant(t, key, []byte("blue's"), api.Grant{Server: blue, Key: key, Nonce: before + 2, End: begun + 100}))
	s.anew(t, begun+100, api.KrbApReq, before+3)
	s.anew(t, begun+101, api.KrbTgsReq, before+4)
	s.anew(t, begun+200, api.KrbTgsReq, before+5)
	s.anew(t, begun+201, api.KrbAsReq, before+6)
	s.wants(t, run(blue, "ls"))
	s.wants(t, run(green, "ls"))
	s.wants(t, run(main, "ls")) // for main the first ticket is enough
	kinds := []int{}
	for _, mail := range s.Tick(begun + 100) {
		m, _ := krb.Read(mail.Data)
		kinds = append(kinds, m.Kind, mail.To)
		if m.Kind == api.KrbApReq && string(m.Ticket) != map[uint64]string{before + 7: "blue's", before + 8: "blue's", before + 10: "main's"}[m.Nonce] {
			t.Errorf("%+v", m)
		}
	}
	if want := [8]int{api.KrbApReq, place, api.KrbApReq, place, api.KrbTgsReq, 0, api.KrbApReq, place}; len(kinds) != 8 || [8]int(kinds) != want {
		t.Errorf("%v", kinds)
	}
}

// TestTelnet: P25.3, of telnet the client comes by telnet's Is of its message, and of others by the message alone; what follows is the same.
func TestTelnet(t *testing.T) {
	for _, symbols := range kinds {
		for _, service := range []int{api.SvcLogin, api.SvcTelnet} {
			s := newSite(symbols)
			s.wants(t, api.Want{Service: service, Server: blue, Account: "ann", Lines: []string{"ls"}})
			s.asks(t, api.KrbAsReq)
			s.asks(t, api.KrbTgsReq)
			list := s.Tick(s.now)
			m := read(t, list, place)
			want := string(write(t, m[0]))
			if service == api.SvcTelnet {
				want = stream(t, telopt.Is([]byte(want)))
			}
			if len(list) != 1 || string(list[0].Data) != want {
				t.Errorf("%+v, not %q", list, want)
			}
			f, answer := s.accepts(t, blue, m[0])
			data := write(t, answer)
			if service == api.SvcTelnet {
				data = []byte(stream(t, telopt.Reply(true, data)))
			}
			if list, err := s.Take(data, s.now); len(list) != 0 || err != nil {
				t.Fatalf("%+v, %v", list, err)
			}
			mails := s.Tick(s.now)
			for _, mail := range mails {
				if link.IsTelnet(mail.Data) {
					t.Errorf("%+v", mail)
				}
			}
			f.goesOn(t, f.hears(t, mails))
			if f.said != "login ann -\nls\r" {
				t.Errorf("%q", f.said)
			}
		}
	}
}

// TestLongTickets: P25.3, tickets of any length that a message may have are used; but telnet's stream has no room for the longest: then nothing is sent.
func TestLongTickets(t *testing.T) {
	for _, n := range []int{0, 2000, 3000} {
		for service, fits := range map[int]bool{api.SvcLogin: true, api.SvcTelnet: n < 3000} {
			s, key, box := newSite(true), api.Key{9}, make([]byte, n)
			s.wants(t, api.Want{Service: service, Server: blue, Account: "ann"})
			s.sends(t, api.KrbAsReq, 0)
			s.gets(t, s.grant(t, ann().Key, box, api.Grant{Server: main, Key: key, Nonce: before + 1, End: begun}))
			if m := s.sends(t, api.KrbTgsReq, 0); len(m.Ticket) != n {
				t.Errorf("%+v", m)
			}
			s.gets(t, s.grant(t, key, box, api.Grant{Server: blue, Key: key, Nonce: before + 2, End: begun}))
			for range 3 {
				if m := s.ticks(t, place); fits != (len(m) == 1 && m[0].Kind == api.KrbApReq && len(m[0].Ticket) == n) || !fits && len(m) != 0 {
					t.Errorf("%d, %d: %+v", n, service, m)
				}
			}
		}
	}
}

// TestNoQuestion: P25.3, P1, a client whose own principal, or main, can't be asked for sends nothing, and answers all the same.
func TestNoQuestion(t *testing.T) {
	for _, x := range []struct {
		own  api.Entry
		main string
	}{{api.Entry{}, main}, {api.Entry{Name: "ann"}, main}, {ann(), ""}, {ann(), "main"}, {api.Entry{Name: "ann@LAND", Flags: 4}, main}, {api.Entry{Name: "ann@LAND", Flags: -1}, main}} {
		s := newSite(true)
		s.host = client.New(s.sealer, x.own, x.main, tree.New(), number)
		s.wants(t, run(blue, "ls"))
		for range 59 {
			if list := s.Tick(s.now); len(list) != 0 {
				t.Errorf("%+v", list)
			}
			s.denies(t, api.Krb{Kind: api.KrbError, Nonce: before + 1, Code: 1}, api.ErrMatch)
			s.denies(t, api.Krb{Kind: api.KrbRep, Nonce: before + 1}, api.ErrMatch)
		}
		s.became(t, api.Got{Want: run(blue, "ls")})
		s.Tick(s.now)
		s.became(t, api.Got{Want: run(blue, "ls"), Done: true, Failed: 102})
	}
}

// TestTimes: P25.3, at times that aren't 0 to 2^39 no tick has gone by, and nothing is sent; at the edges all is as ever.
func TestTimes(t *testing.T) {
	s := newSite(true)
	s.wants(t, run(blue, "ls"))
	for _, now := range []int64{-1, 1<<39 + 1, math.MinInt64, math.MaxInt64} {
		for range 60 {
			if list := s.Tick(now); len(list) != 0 {
				t.Errorf("at %d: %+v", now, list)
			}
		}
	}
	s.became(t, api.Got{Want: run(blue, "ls")})
	for i, now := range []int64{0, 1 << 39} {
		s.now = now
		if m := s.sends(t, api.KrbAsReq, 0); m.End != now+1000 || m.Nonce != before+1+uint64(i) {
			t.Errorf("%+v", m)
		}
	}
	for range 57 {
		s.Tick(0)
	}
	s.became(t, api.Got{Want: run(blue, "ls")})
	s.Tick(-1)
	s.became(t, api.Got{Want: run(blue, "ls")})
	if list := s.Tick(0); len(list) != 0 {
		t.Errorf("%+v", list)
	}
	s.became(t, api.Got{Want: run(blue, "ls"), Done: true, Failed: int(api.ErrClosed)})
}

// TestSixtieth: P25.3, at its sixtieth tick a want is done, with the Code of the last KrbError with any Nonce of its; from then on nothing is sent for it.
func TestSixtieth(t *testing.T) {
	for _, codes := range [][]int{nil, {66}, {66, 1}, {999, 64, 68}} {
		s := newSite(true)
		s.wants(t, run(blue, "ls"))
		s.wants(t, run(green, "ls"))
		for n := range 59 {
			s.now += 5
			if m := s.ticks(t, 0); len(m) != 2 {
				t.Fatalf("%d: %+v", n, m)
			}
		}
		for i, code := range codes {
			s.gets(t, api.Krb{Kind: api.KrbError, Nonce: before + 117 - 58*uint64(i), Code: code}) // of the first one's questions, the last one or an older one
		}
		s.gets(t, api.Krb{Kind: api.KrbError, Nonce: before + 2, Code: 7}) // the other one's
		for _, g := range s.Got() {
			if g.Done || g.Failed != 0 {
				t.Errorf("%+v", g)
			}
		}
		s.wants(t, run(blue, "more"))
		if m := s.sends(t, api.KrbAsReq, 0); m.Nonce != before+119 {
			t.Errorf("%+v", m)
		}
		failed := int(api.ErrClosed)
		if len(codes) > 0 {
			failed = codes[len(codes)-1]
		}
		list := s.Got()
		if !sameGot(list[0], api.Got{Want: run(blue, "ls"), Done: true, Failed: failed}) || !sameGot(list[1], api.Got{Want: run(green, "ls"), Done: true, Failed: 7}) || !sameGot(list[2], api.Got{Want: run(blue, "more")}) {
			t.Errorf("%v: %+v", codes, list)
		}
	}
}

// TestSixtiethOfSession: P25.3, a want whose session is there is done at its sixtieth tick, too.
func TestSixtiethOfSession(t *testing.T) {
	s := newSite(true)
	f := s.meets(t, run(blue, "ls")) // by three ticks
	s.gets(t, api.Krb{Kind: api.KrbError, Nonce: before + 2, Code: 61})
	for range 56 {
		if m := s.ticks(t, place); len(m) != 1 || m[0].Kind != api.KrbData {
			t.Errorf("%+v", m)
		}
	}
	f.became(t, f.with(t, func(*api.Got) {}))
	if list := s.Tick(s.now); len(list) != 0 {
		t.Errorf("%+v", list)
	}
	f.became(t, f.with(t, func(g *api.Got) { g.Done, g.Failed = true, 61 }))
}

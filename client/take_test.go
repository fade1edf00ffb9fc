package client_test

import (
	"math"
	"strconv"
	"strings"
	"testing"

	"gangway/api"
	"gangway/probe"
	"gangway/telopt"
	"gangway/ticket"
)

// others gives messages of the kinds that no client takes.
func others(t *testing.T, nonce uint64) []string {
	t.Helper()
	var list []string
	for _, m := range []api.Krb{
		{Kind: api.KrbAsReq, Client: "ann@LAND", Server: main, Nonce: nonce}, {Kind: api.KrbTgsReq, Server: blue, Nonce: nonce}, {Kind: api.KrbApReq, Nonce: nonce},
	} {
		list = append(list, string(write(t, m)))
	}
	return list
}

// TestNoMessage: P25.4, what is neither a message nor telnet's stream with a Reply of one, or is one of another kind, is refused, and nothing has changed.
func TestNoMessage(t *testing.T) {
	s := newSite(true)
	for text := range probe.Texts("\x00\x1f\x25\x02\xf0\xfa\xff", 5) {
		s.refuses(t, []byte(text), api.ErrForm)
	}
	s.wants(t, run(blue, "ls"))
	answer := string(write(t, s.answer(t, s.sends(t, api.KrbAsReq, 0))))
	reply := stream(t, telopt.Reply(true, []byte(answer)))
	list := append(others(t, before+1), "", "x"+answer, answer+"x", answer[1:], answer[:len(answer)-1], "x"+reply, answer+reply,
		reply[:len(reply)-1], reply+"\xff\x00", reply+"\xff\xfa\x25\xff\x01", "\xff\x01"+reply, reply+"\xff\xfa\x01"+strings.Repeat("x", 3001), "\xff"+answer,
		stream(t, telopt.Is([]byte(answer))), stream(t, telopt.Send()), stream(t, telopt.Reply(true, nil)), stream(t, telopt.Reply(false, []byte(answer[1:]))), stream(t, telopt.Reply(true, []byte(reply))),
		stream(t, api.Tel{Kind: api.TelSub, Option: 36, Data: telopt.Reply(true, []byte(answer)).Data}))
	for _, m := range others(t, before+1) {
		list = append(list, stream(t, telopt.Reply(true, []byte(m))))
	}
	for _, text := range list {
		s.refuses(t, []byte(text), api.ErrForm)
	}
	s.became(t, api.Got{Want: run(blue, "ls")})
	s.sends(t, api.KrbAsReq, 0)
}

// TestReply: P25.4, a message in a Reply of telnet's stream, one that accepts or one that doesn't, is taken as the message alone, whatever else is in the stream.
func TestReply(t *testing.T) {
	for _, symbols := range kinds {
		for _, text := range [][2]string{
			{}, {"\xff\xfb\x25"}, {"\xff\xf1\xff\xffdata"}, {"\xff\xfd\x25" + stream(t, telopt.Send()) + stream(t, telopt.Is([]byte("no")))}, {"", "data"}, {"", "\xff"}, {"", "\xff\xfa\x25\x00"},
			{stream(t, telopt.Reply(true, []byte("none"))), ""}, {"", stream(t, telopt.Reply(true, []byte("none")))}, {"", stream(t, telopt.Reply(true, write(t, api.Krb{Kind: api.KrbData})))},
		} {
			for _, accepts := range []bool{true, false} {
				s := newSite(symbols)
				s.wants(t, run(blue, "ls"))
				answer := write(t, s.answer(t, s.sends(t, api.KrbAsReq, 0)))
				if list, err := s.Take([]byte(text[0]+stream(t, telopt.Reply(accepts, answer))+text[1]), s.now); len(list) != 0 || err != nil {
					t.Errorf("%q: %+v, %v", text, list, err)
				}
				s.asks(t, api.KrbTgsReq)
			}
		}
	}
}

// TestTicketErrors: P25.4, what isn't the answer to a question is refused, by the first error that applies; then the answer is taken, and once more.
func TestTicketErrors(t *testing.T) {
	for _, symbols := range kinds {
		s := newSite(symbols)
		s.wants(t, run(blue, "ls"))
		key, own := api.Key{9}, ann().Key
		for _, x := range []struct {
			kind   int
			server string
			key    api.Key
		}{{api.KrbAsReq, main, own}, {api.KrbTgsReq, blue, key}} {
			nonce := s.sends(t, x.kind, 0).Nonce
			right := api.Grant{Server: x.server, Key: key, Nonce: nonce, End: begun}
			for _, wrong := range []uint64{0, 1, nonce - 1, nonce + 1, nonce << 1, math.MaxUint64} { // its box isn't looked at
				s.denies(t, api.Krb{Kind: api.KrbRep, Nonce: wrong, Sealed: []byte("x")}, api.ErrMatch)
			}
			spoilt := s.grant(t, x.key, nil, right).Sealed
			spoilt[len(spoilt)-1] ^= 0x80
			for _, box := range [][]byte{nil, []byte("x"), spoilt, s.grant(t, api.Key{8}, nil, right).Sealed, s.box(t, x.key, api.UseReply, right)} {
				s.denies(t, api.Krb{Kind: api.KrbRep, Nonce: nonce, Sealed: box}, api.ErrSeal)
			}
			text, _ := ticket.WriteAuth(api.Auth{Client: "ann@LAND"})
			for _, plain := range []string{"", "x", string(text)} {
				box, _ := s.sealer.Seal(x.key, api.UseGrant, []byte(plain))
				s.denies(t, api.Krb{Kind: api.KrbRep, Nonce: nonce, Sealed: box}, api.ErrForm)
			}
			for _, wrong := range []api.Grant{
				{Server: x.server, Nonce: nonce + 1}, {Server: x.server, End: begun}, {Server: green, Nonce: nonce}, {Server: "ann@LAND", Nonce: nonce, End: begun}, {Server: green, End: begun},
			} {
				m := s.grant(t, x.key, nil, wrong)
				m.Nonce = nonce
				s.denies(t, m, api.ErrMatch)
			}
			s.denies(t, s.grant(t, x.key, nil, api.Grant{Server: x.server, Nonce: nonce, End: begun - 1}), api.ErrExpired)
			s.sends(t, x.kind, 0) // still asked for
			for range 2 {
				s.gets(t, s.grant(t, x.key, nil, right))
			}
		}
		s.sends(t, api.KrbApReq, place)
	}
}

// TestLastQuestion: P25.4, only the answer to a want's last question is taken: not that to one ahead of it, but also if the want has come to its server since, has a session, or is done.
func TestLastQuestion(t *testing.T) {
	s := newSite(true)
	s.wants(t, run(blue, "ls"))
	old := s.answer(t, s.sends(t, api.KrbAsReq, 0))
	s.now += 5
	as := s.answer(t, s.sends(t, api.KrbAsReq, 0))
	s.denies(t, old, api.ErrMatch)
	s.gets(t, as)
	oldTgs := s.answer(t, s.sends(t, api.KrbTgsReq, 0))
	s.denies(t, as, api.ErrMatch)
	s.now += 5
	tgs := s.answer(t, s.sends(t, api.KrbTgsReq, 0))
	s.denies(t, oldTgs, api.ErrMatch)
	s.gets(t, tgs)
	f, answer := s.accepts(t, blue, s.sends(t, api.KrbApReq, place))
	s.gets(t, tgs)
	s.gets(t, answer)
	s.gets(t, tgs)
	s.denies(t, as, api.ErrMatch)
	f.says(t, api.ChanExit, "0")
	f.ends(t, api.ChanOut, api.ChanErr, api.ChanExit)
	s.gets(t, tgs)
	s.denies(t, as, api.ErrMatch)
	s.now = begun + 3000 // all tickets are over
	s.wants(t, run(green, "ls"))
	last := s.sends(t, api.KrbAsReq, 0)
	s.fails(t)
	s.became(t, api.Got{Want: run(green, "ls"), Done: true, Failed: 102})
	s.gets(t, s.answer(t, last))
	s.wants(t, run(green, "ls"))
	s.sends(t, api.KrbTgsReq, 0) // the ticket for main has come
}

// TestEachQuestion: P25.4, each of several wants has its own last question, whose answer is taken for what was asked then: by own's key, or by the key of the ticket that was the one for main then.
func TestEachQuestion(t *testing.T) {
	for _, symbols := range kinds {
		s := newSite(symbols)
		s.wants(t, run(blue, "ls"))
		s.wants(t, run(green, "ls"))
		asked := s.ticks(t, 0)
		elder := s.answer(t, asked[0])
		s.gets(t, elder)
		list := s.ticks(t, 0)
		if len(list) != 2 || list[0].Kind != api.KrbTgsReq || list[1].Kind != api.KrbTgsReq || list[0].Server != blue || list[1].Server != green {
			t.Fatalf("%+v", list)
		}
		s.denies(t, s.answer(t, asked[1]), api.ErrMatch)
		first, second := s.answer(t, list[0]), s.answer(t, list[1])
		crossed := second
		crossed.Nonce = first.Nonce
		s.denies(t, crossed, api.ErrMatch) // the box opens, but its grant is for the other one
		s.gets(t, second)
		s.gets(t, first)
		kinds := s.ticks(t, place)
		if len(kinds) != 2 || kinds[0].Kind != api.KrbApReq || kinds[1].Kind != api.KrbApReq {
			t.Errorf("%+v", kinds)
		}
	}
}

// TestQuestionsKey: P25.4, the answer to a question is opened by the key of the ticket by which was asked, also if that for main is another one by now.
func TestQuestionsKey(t *testing.T) {
	for _, symbols := range kinds {
		s, elder, newer := newSite(symbols), api.Key{8}, api.Key{9}
		s.wants(t, run(main, "ls")) // its last question stays one for main
		s.sends(t, api.KrbAsReq, 0)
		s.gets(t, s.grant(t, ann().Key, []byte("elder"), api.Grant{Server: main, Key: elder, Nonce: before + 1, End: 5000}))
		s.sends(t, api.KrbApReq, place)
		s.wants(t, run(blue, "ls"))
		list := s.Tick(s.now)
		if m := read(t, list[1:], 0); len(m) != 1 || m[0].Nonce != before+3 || string(m[0].Ticket) != "elder" {
			t.Fatalf("%+v", m)
		}
		s.gets(t, s.grant(t, ann().Key, []byte("newer"), api.Grant{Server: main, Key: newer, Nonce: before + 1, End: 6000}))
		answer := api.Grant{Server: blue, Nonce: before + 3, End: 5000}
		s.denies(t, s.grant(t, newer, nil, answer), api.ErrSeal)
		s.denies(t, s.grant(t, ann().Key, nil, answer), api.ErrSeal)
		s.gets(t, s.grant(t, elder, nil, answer))
	}
}

// TestCacheFull: P25.4, what the cache has no room for is refused; once others are over there is room.
func TestCacheFull(t *testing.T) {
	s, key := newSite(true), api.Key{9}
	s.wants(t, run(main, "ls"))
	s.sends(t, api.KrbAsReq, 0)
	s.gets(t, s.grant(t, ann().Key, nil, api.Grant{Server: main, Key: key, Nonce: before + 1, End: 5000}))
	for n := range 8 {
		s.fails(t)
		server := "s" + strconv.Itoa(n) + "@LAND"
		s.wants(t, run(server, "ls"))
		g := api.Grant{Server: server, Nonce: s.sends(t, api.KrbTgsReq, 0).Nonce, End: begun + 50}
		if n < 7 {
			s.gets(t, s.grant(t, key, nil, g))
			continue
		}
		s.denies(t, s.grant(t, key, nil, g), api.ErrFull)
		s.now = begun + 51
		s.denies(t, s.grant(t, key, nil, g), api.ErrExpired)
		g.End++
		s.gets(t, s.grant(t, key, nil, g))
	}
	s.sends(t, api.KrbApReq, place)
}

// fails lets so many ticks go by that all wants are done.
func (s *site) fails(t *testing.T) {
	t.Helper()
	for range 60 {
		s.Tick(s.now)
	}
	for _, g := range s.Got() {
		if !g.Done {
			t.Fatalf("%+v", g)
		}
	}
}

// TestConfirmErrors: P25.4, P25.6, only the answer to a want's last coming confirms, and only if it shows that the server has the ticket's key; by the first error that applies.
func TestConfirmErrors(t *testing.T) {
	for _, symbols := range kinds {
		s := newSite(symbols)
		s.wants(t, run(blue, "ls"))
		s.asks(t, api.KrbAsReq)
		s.denies(t, api.Krb{Kind: api.KrbApRep, Nonce: before + 1}, api.ErrMatch)
		grant, e := s.sealer.Open(entry(main).Key, api.UseTicket, s.sends(t, api.KrbTgsReq, 0).Ticket)
		first, e2 := ticket.Read(grant)
		if e != api.OK || e2 != api.OK {
			t.Fatal(e, e2)
		}
		key := api.Key{9}
		s.gets(t, s.grant(t, first.Key, []byte("blue's"), api.Grant{Server: blue, Key: key, Nonce: before + 2, End: 5000}))
		s.denies(t, api.Krb{Kind: api.KrbApRep, Nonce: before + 2}, api.ErrMatch)
		older := s.auth(t, key, s.sends(t, api.KrbApReq, place).Sealed)
		s.now += 5
		a := s.auth(t, key, s.sends(t, api.KrbApReq, place).Sealed)
		for _, nonce := range []uint64{0, 1, before, older.Nonce, a.Nonce + 1, math.MaxUint64} {
			m := s.reply(t, key, api.UseReply, api.Auth{Client: blue, Time: older.Time, Nonce: nonce})
			m.Nonce = nonce
			s.denies(t, m, api.ErrMatch)
		}
		right := api.Auth{Client: blue, Time: a.Time, Nonce: a.Nonce, Subkey: api.Key{5}}
		for _, m := range []api.Krb{
			{Kind: api.KrbApRep, Nonce: a.Nonce}, {Kind: api.KrbApRep, Nonce: a.Nonce, Sealed: []byte("x")},
			s.reply(t, api.Key{8}, api.UseReply, right), s.reply(t, ann().Key, api.UseReply, right), s.reply(t, key, api.UseAuth, right),
		} {
			s.denies(t, m, api.ErrSeal)
		}
		box, _ := s.sealer.Seal(key, api.UseReply, []byte("x"))
		s.denies(t, api.Krb{Kind: api.KrbApRep, Nonce: a.Nonce, Sealed: box}, api.ErrForm)
		for _, wrong := range []api.Auth{{Client: green, Time: a.Time, Nonce: a.Nonce}, {Client: "ann@LAND", Time: a.Time, Nonce: a.Nonce}, {Client: blue, Time: older.Time, Nonce: a.Nonce}, {Client: blue, Time: a.Time, Nonce: older.Nonce}} {
			m := s.reply(t, key, api.UseReply, wrong)
			m.Nonce = a.Nonce
			s.denies(t, m, api.ErrMatch)
		}
		s.became(t, api.Got{Want: run(blue, "ls")})
		s.now += 20 // the answer may come late
		s.gets(t, s.reply(t, key, api.UseReply, right))
		s.became(t, api.Got{Want: run(blue, "ls"), Key: api.Key{5}, Nonce: a.Nonce, Sent: []string{"ls"}, Confirmed: true})
		s.denies(t, s.reply(t, key, api.UseReply, right), api.ErrMatch) // there is a session
		if m := s.sends(t, api.KrbData, place); m.Nonce != a.Nonce {
			t.Errorf("%+v", m)
		}
	}
}

// reply gives what answers a coming: an authenticator, sealed under a key for a use.
func (s *site) reply(t *testing.T, key api.Key, use int, a api.Auth) api.Krb {
	t.Helper()
	text, e := ticket.WriteAuth(a)
	if e != api.OK {
		t.Fatalf("%+v: %v", a, e)
	}
	box, _ := s.sealer.Seal(key, use, text)
	return api.Krb{Kind: api.KrbApRep, Nonce: a.Nonce, Sealed: box}
}

// TestConfirmLate: P25.4, P25.6, a want that is done without a session is confirmed all the same, if its server answers then; but nothing is sent for it, and it has failed.
func TestConfirmLate(t *testing.T) {
	s := newSite(true)
	s.wants(t, run(blue, "ls"))
	s.asks(t, api.KrbAsReq)
	s.asks(t, api.KrbTgsReq)
	f, answer := s.accepts(t, blue, s.sends(t, api.KrbApReq, place))
	s.fails(t)
	s.became(t, api.Got{Want: run(blue, "ls"), Done: true, Failed: 102})
	s.gets(t, answer)
	f.became(t, f.with(t, func(g *api.Got) { g.Done, g.Failed = true, 102 }))
	if list := s.Tick(s.now); len(list) != 0 {
		t.Errorf("%+v", list)
	}
}

// TestKrbErrors: P25.4, a KrbError is taken, if its Nonce is any that a want has had, whatever has become of it; else it is refused. It changes nothing before the want's end.
func TestKrbErrors(t *testing.T) {
	s := newSite(true)
	m := api.Krb{Kind: api.KrbError, Code: 66}
	refused := func(from uint64) {
		t.Helper()
		for _, nonce := range []uint64{0, 1, 66, before, from, from + 1, 1 << 63, math.MaxUint64} {
			m.Nonce = nonce
			s.denies(t, m, api.ErrMatch)
		}
	}
	taken := func(last uint64) {
		t.Helper()
		for nonce := uint64(before + 1); nonce <= last; nonce++ {
			m.Nonce = nonce
			s.gets(t, m)
		}
		refused(last + 1)
	}
	refused(before + 1)
	s.wants(t, run(blue, "ls"))
	refused(before + 1)
	s.asks(t, api.KrbAsReq)
	taken(before + 1)
	s.asks(t, api.KrbTgsReq)
	taken(before + 2)
	f, answer := s.accepts(t, blue, s.sends(t, api.KrbApReq, place))
	taken(before + 3)
	s.gets(t, answer)
	taken(before + 3)
	f.says(t, api.ChanExit, "0")
	f.ends(t, api.ChanOut, api.ChanErr, api.ChanExit)
	taken(before + 3)
	f.became(t, f.with(t, func(g *api.Got) { g.Done = true }))
	s.wants(t, run(green, "ls"))
	taken(before + 3)
	s.sends(t, api.KrbTgsReq, 0)
	taken(before + 4)
}

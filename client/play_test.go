package client_test

import (
	"errors"
	"fmt"
	"slices"
	"strings"
	"testing"

	"gangway/api"
	"gangway/krb"
	"gangway/probe"
	"gangway/server"
	"gangway/telopt"
	"gangway/ticket"
	"gangway/tlv"
)

// game is a run of a client among servers, all by dice: what they send comes, is lost, comes again, or late; and much comes that nobody of them sent.
type game struct {
	*site
	t        *testing.T
	dice     *probe.Dice
	servers  []*server.Server
	underWay []api.Mail // to host 0, to servers (from host 1 on), to the client (any other)
	seen     [][]byte
	asked    uint64            // the Nonce of the last question for a first ticket
	calm     bool              // whether little but what is sent comes
	apart    int64             // by how much the others' clocks are ahead
	told     []string          // all that was answered
	met      map[api.Errno]int // of Want and Take
}

// names gives the servers' principals, by their hosts.
func names() []string { return []string{main, blue, green} }

// play plays a game of so many steps.
func play(t *testing.T, s *site, seed uint64, steps int) *game {
	t.Helper()
	g := &game{site: s, t: t, dice: probe.NewDice(seed), met: map[api.Errno]int{}}
	for _, name := range names()[1:] {
		x, e := server.New(s.sealer, entry(name), probe.Planted(probe.Dir("/users", "root", 61), probe.Dir("/users/ann", "ann", 61), probe.File("/big", "ann", 60, strings.Repeat("0123456789", 100))), "DEFAULT\n", begun)
		if e != api.OK {
			t.Fatal(e)
		}
		g.servers = append(g.servers, x)
	}
	g.calm = g.dice.Roll(3) == 0
	g.apart = probe.Pick(g.dice, []int64{0, 0, 0, 1, -3, 9, -11, 12})
	for i := range steps {
		g.step()
		if i%4 == 0 {
			g.tell(g.Got())
		}
	}
	return g
}

// tell puts down what was answered.
func (g *game) tell(answers ...any) { g.told = append(g.told, fmt.Sprintf("%v", answers)) }

// step does any one thing.
func (g *game) step() {
	switch n := g.dice.Roll(100); {
	case n < 5:
		g.want()
	case n < 17:
		g.now += probe.Pick(g.dice, []int64{0, 0, 1, 1, 1, 2, 5})
		g.tick(g.now)
	case n < 18 && g.dice.Roll(2) == 0:
		g.now += probe.Pick(g.dice, []int64{-2, 100, 300, 0, 0, 0})
		g.tick(probe.Pick(g.dice, []int64{-1, g.now - 3, g.now, g.now, 1<<39 + 1}))
	case n < 19 && g.dice.Roll(8) == 0:
		for range 30 {
			g.tick(g.now)
		}
	case n < 22:
		host := 1 + g.dice.Roll(2)
		g.send(g.servers[host-1].Tick(g.now + g.apart))
	case n < 23 && g.dice.Roll(5) == 0:
		g.servers[g.dice.Roll(2)].Restart(g.now + g.apart)
	case n < 91 && len(g.underWay) > 0, g.calm && len(g.underWay) > 0:
		i := g.dice.Roll(min(len(g.underWay), 1+g.dice.Roll(3)))
		mail := g.underWay[i]
		if g.dice.Roll(10) > 0 {
			g.underWay = slices.Delete(g.underWay, i, i+1)
		}
		g.deliver(mail)
	case n < 92 && len(g.underWay) > 0:
		g.underWay = slices.Delete(g.underWay, 0, 1)
	case n < 96:
		g.forge()
	default:
		g.noise()
	}
}

// want lets the client want something, which mostly is right.
func (g *game) want() {
	account := probe.Pick(g.dice, []string{"ann", "ann", "ann", "ann", "ann", "bob", "Ann"})
	lines := []string{probe.Pick(g.dice, []string{"whoami", "cat /big", "", "echo hi", "put /users/ann/x some", "exit 3", "cat /none"}), "whoami", "cat /big", "exit 9", "x\n"}
	w := api.Want{Service: 1 + g.dice.Roll(4), Server: names()[1+g.dice.Roll(2)], Account: account, Lines: lines[:min(g.dice.Roll(7), 5)]}
	if w.Service == api.SvcRun && g.dice.Roll(5) > 0 {
		w.Lines = lines[:1]
	}
	if g.dice.Roll(20) == 0 {
		w.Server = probe.Pick(g.dice, []string{main, "host/grey@LAND", "nobody"})
	}
	w.Path, w.To, w.Modes = probe.Pick(g.dice, []string{"/f", "/d", "/d/g", "/none", "none", "/many", "/many", "/many"}), probe.Pick(g.dice, []string{"/users/ann/x", "/users/ann/y", "/users/ann/z", "/to", "/..", "/users/ann/new", "/users/ann/v"}), g.dice.Roll(2) == 0
	e := g.Want(w, slices.Index(names(), w.Server))
	g.met[e]++
	g.tell(e)
}

// tick lets the client tick.
func (g *game) tick(now int64) { g.send(g.Tick(now)) }

// send lets mails be under way.
func (g *game) send(list []api.Mail) {
	g.tell(list)
	for _, mail := range list {
		g.seen = append(g.seen, mail.Data)
		if m, _ := krb.Read(mail.Data); m.Kind == api.KrbAsReq {
			g.asked = m.Nonce
		}
		if g.dice.Roll(10) > 0 {
			g.underWay = append(g.underWay, mail)
		}
	}
}

// deliver lets a mail come to its host.
func (g *game) deliver(mail api.Mail) {
	var list []api.Mail
	switch mail.To {
	case 0:
		m, _ := krb.Read(mail.Data)
		data, e := krb.Write(g.main.Answer(m, g.now+g.apart))
		if e == api.OK {
			list = []api.Mail{{To: 9, Data: data}}
		}
	case 1, 2:
		list, _ = g.servers[mail.To-1].Take(mail.Data, 9, g.now+g.apart)
	default:
		var err error
		list, err = g.Take(mail.Data, g.now)
		g.tell(err)
		var e api.Errno
		errors.As(err, &e)
		g.met[e]++
	}
	g.send(list)
}

// noise lets something come to the client that nobody has sent just so.
func (g *game) noise() {
	if len(g.seen) == 0 {
		return
	}
	data := slices.Clone(probe.Pick(g.dice, g.seen))
	m, e := krb.Read(data)
	switch g.dice.Roll(7) {
	case 0:
		data = []byte(g.dice.Text(g.dice.Roll(40)))
	case 1:
		data[g.dice.Roll(len(data))]++
	case 2:
		data = data[:g.dice.Roll(len(data))]
	case 3:
		part, _ := telopt.Write(telopt.Reply(g.dice.Roll(2) == 0, data))
		data = append([]byte(probe.Pick(g.dice, []string{"", "\xff\xfb\x25", "\xff\xf1hi"})), part...)
	case 4, 5:
		if e == api.OK {
			m.Nonce = before + uint64(g.dice.Roll(30))
			data, _ = krb.Write(m)
		}
	}
	g.deliver(api.Mail{To: 9, Data: data})
}

// forge lets something come to the client that is sealed by who has the key, but is wrong.
func (g *game) forge() {
	m := api.Krb{Kind: api.KrbError, Nonce: before + uint64(g.dice.Roll(30)), Code: 1 + g.dice.Roll(99)}
	switch g.dice.Roll(4) {
	case 0:
		m.Nonce = probe.Pick(g.dice, []uint64{m.Nonce, g.asked, g.asked})
		grant := api.Grant{Server: probe.Pick(g.dice, []string{main, main, blue}), Key: api.Key{9}, Nonce: m.Nonce, End: max(0, g.now+int64(g.dice.Roll(40)-10))}
		text, _ := ticket.WriteGrant(grant)
		box, _ := g.sealer.Seal(ann().Key, api.UseGrant, text[:probe.Pick(g.dice, []int{len(text), len(text), len(text), 3})])
		m = api.Krb{Kind: api.KrbRep, Nonce: m.Nonce, Ticket: []byte("forged"), Sealed: box}
	case 1, 2:
		served := append(g.servers[0].Served(), g.servers[1].Served()...)
		if len(served) == 0 {
			return
		}
		x := served[max(0, len(served)-1-g.dice.Roll(3))]
		broken := probe.Pick(g.dice, []string{"\x05", "\x01\x03\x00", "\x04\x00\x01x", "\x01\x00\x02hi", "\x04\x00\x04\x01\x00\x03\xff", "\x04\x00\x04\x02\x01\x00\x00\x01\x00\x01x", "\x03\x00\x012\x04\x00\x04\x02\x01\x00\x00\x04\x00\x04\x02\x02\x00\x00\x04\x00\x04\x02\x03\x00\x00"})
		plain, _ := tlv.Join([]api.Field{{Tag: 41, Value: tlv.Num(1)}, {Tag: 42, Value: tlv.Num(uint64(g.dice.Roll(6)))}, {Tag: 43, Value: nil}, {Tag: 44, Value: []byte(broken)}})
		box, _ := g.sealer.Seal(x.Key, api.UsePriv, plain)
		m = api.Krb{Kind: api.KrbData, Nonce: x.Nonce, Sealed: box}
	}
	data, e := krb.Write(m)
	if e != api.OK {
		g.t.Fatalf("%+v: %v", m, e)
	}
	g.seen = append(g.seen, data)
	g.deliver(api.Mail{To: 9, Data: data})
}

// newPlaySite gives a site with a directory of many files.
func newPlaySite(symbols bool) *site {
	s := newSite(symbols)
	s.files.Mkdir(api.Root, "/many", 61)
	for n := range 20 {
		s.files.Write(api.Root, "/many/"+string(rune('a'+n)), probe.Bytes(uint64(n), n*12), 52)
	}
	return s
}

// newTwinSite gives the same site with a twin.
func newTwinSite(symbols bool) *site {
	s := newPlaySite(symbols)
	s.host = newTwin(s.sealer, ann(), main, s.files)
	return s
}

// TestTwin: P25.1 to P25.5, in long runs the client answers what its twin does.
func TestTwin(t *testing.T) {
	met := map[api.Errno]int{}
	count := map[string]int{}
	for seed := range uint64(250) {
		symbols := seed%2 == 0
		a, b := play(t, newPlaySite(symbols), seed, 600), play(t, newTwinSite(symbols), seed, 600)
		if other := probe.Differ(a.told, b.told); other != "" || !probe.Alike(a.sealer, b.sealer) {
			t.Fatalf("%d: %s", seed, other)
		}
		for e, n := range a.met {
			met[e] += n
		}
		for _, x := range a.Got() {
			for name, is := range map[string]bool{
				"done": x.Done && x.Failed == 0, "put": len(x.Out) > 900, "coded": x.Code > 0, "confirmed": x.Confirmed, "late": x.Failed == 102, "refused": x.Failed > 59 && x.Failed < 70,
				"denied": x.Failed == 90, "broken": x.Failed == 100 || x.Failed == 23, "open": !x.Done && x.Confirmed, "copied": x.Done && x.Failed == 0 && x.Want.Service == api.SvcCopy && x.Want.Path == "/many",
			} {
				if is {
					count[name]++
				}
			}
		}
	}
	for _, e := range []api.Errno{api.OK, api.ErrArg, api.ErrFull, api.ErrNotFound, api.ErrForm, api.ErrSeal, api.ErrMatch, api.ErrExpired} {
		if met[e] < 20 {
			t.Errorf("%v was met %d times", e, met[e])
		}
	}
	for _, name := range []string{"done", "put", "coded", "confirmed", "late", "refused", "denied", "broken", "open", "copied"} {
		if count[name] < 20 {
			t.Errorf("%d are %s", count[name], name)
		}
	}
}

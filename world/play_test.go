package world_test

import (
	"fmt"
	"strings"
	"testing"

	"gangway/api"
	"gangway/krb"
	"gangway/probe"
	"gangway/telopt"
	"gangway/ticket"
	"gangway/tlv"
	"gangway/world"
)

// game is a run of a world, all by dice.
type game struct {
	*land
	dice    *probe.Dice
	hostile bool              // whether the enemy injects and forges
	thieves int               // of how many keys in a hundred events one may be stolen
	events  []api.Event       // all that has happened
	told    []string          // all that was answered
	met     map[string]int    // how often each error was, and where
	watch   func(e api.Event) // is called behind each event
}

// newGame gives a game over a world of a size that hangs on the seed.
func newGame(t *testing.T, symbols bool, seed uint64, hostile bool) *game {
	t.Helper()
	dice := probe.NewDice(seed)
	servers, clients := 1+dice.Roll(2), 1+dice.Roll(2)
	return &game{land: newLand(t, symbols, servers, clients), dice: dice, hostile: hostile, met: map[string]int{}, watch: func(api.Event) {}}
}

// play lets so many things happen.
func (g *game) play(steps int) {
	g.t.Helper()
	for range steps {
		g.do(g.next())
	}
}

// do lets one thing happen, puts down what was answered, and gives the error.
func (g *game) do(e api.Event) error {
	g.t.Helper()
	err := g.Do(e)
	g.events = append(g.events, e)
	told := ""
	if err != nil {
		told = err.Error() + " " + number(err).Error()
	}
	g.met[fmt.Sprintf("%d %s", e.Kind, told)]++
	g.told = append(g.told, fmt.Sprintf("%+v: %s, %d mails", e, told, g.Len()))
	g.watch(e)
	return err
}

// tells lets the game put down its state, too, now and then.
func (g *game) tells(withKeys bool) {
	g.watch = func(api.Event) {
		if len(g.events)%50 == 0 {
			g.told = append(g.told, g.state(withKeys))
		}
	}
}

// next gives any event, which mostly is one that can be.
func (g *game) next() api.Event {
	mail := 0
	if g.Len() > 0 && g.dice.Roll(3) == 0 {
		mail = g.dice.Roll(g.Len())
	}
	switch n := g.dice.Roll(200); {
	case n < 12:
		return g.want()
	case n < 40:
		return api.Event{Kind: api.EvTick, Who: g.behind()}
	case n < 43:
		return api.Event{Kind: api.EvTick, Who: g.dice.Roll(g.hosts())}
	case n < 49:
		return api.Event{Kind: api.EvDrop, K: mail}
	case n < 57:
		return api.Event{Kind: api.EvCopy, K: mail}
	case n < 58 && g.dice.Roll(8) == 0:
		return api.Event{Kind: api.EvRestart, Who: 1 + g.dice.Roll(g.servers)}
	case n < 59:
		return api.Event{Kind: g.dice.Roll(11), Who: g.dice.Roll(9) - 2, K: g.dice.Roll(9) - 2}
	case n < 60 && g.dice.Roll(100) < g.thieves:
		return api.Event{Kind: api.EvSteal, Who: g.dice.Roll(g.hosts())}
	case n < 70 && g.hostile:
		return g.forged()
	case n < 85 && g.hostile:
		return g.injected()
	}
	if g.Len() == 0 && g.dice.Roll(8) > 0 {
		return api.Event{Kind: api.EvTick, Who: g.behind()}
	}
	return api.Event{Kind: api.EvDeliver, K: mail}
}

// behind gives the host whose clock is the least, or mostly that.
func (g *game) behind() int {
	least := g.dice.Roll(g.hosts())
	for host := range g.hosts() {
		if g.Now(host) < g.Now(least) {
			least = host
		}
	}
	return least
}

// want gives what a client wants of a server, which mostly is right, and allowed.
func (g *game) want() api.Event {
	host := 1 + g.servers + g.dice.Roll(g.clients)
	user := g.user(host)
	w := api.Want{Service: 1 + g.dice.Roll(4), Modes: g.dice.Roll(2) == 0}
	home := "/users/" + user
	lines := []string{"whoami", "put " + home + "/f one", "put " + home + "/.k5login bob@LAND", "rm " + home + "/.k5login", "cat " + home + "/f", "cat /none", "exit 3", "ls " + home, "mkdir " + home + "/new", "nix", "chmod 75 " + home}
	for range g.dice.Roll(5) {
		w.Lines = append(w.Lines, probe.Pick(g.dice, lines))
	}
	if w.Service == api.SvcRun && (len(w.Lines) == 0 || g.dice.Roll(8) > 0) {
		w.Lines = []string{probe.Pick(g.dice, lines)}
	}
	w.Path = probe.Pick(g.dice, []string{"/src", "/src", "/src/a", "/one", "/none", "none"})
	w.To = probe.Pick(g.dice, []string{home, home + "/new", home + "/new", home + "/f", "/new"})
	if g.dice.Roll(8) == 0 {
		w.Account = probe.Pick(g.dice, []string{"ann", "bob", "carl", "Ann"})
	}
	if g.dice.Roll(30) == 0 {
		w.Server = probe.Pick(g.dice, []string{"host/s1@LAND", "host/s2@LAND", "krbtgt/LAND@LAND", "bob@LAND", "host/s9@LAND", "none"})
	}
	return g.wanted(user, 1+g.dice.Roll(g.servers), w)
}

// parts gives what the enemy makes messages of: Nonces, and boxes; they are mostly late ones.
func (g *game) parts() (nonces []uint64, boxes [][]byte) {
	nonces, boxes = []uint64{0, 2<<32 + 1, 3<<32 + 1}, [][]byte{nil, []byte("box")}
	seen := g.Seen()
	for _, data := range seen[max(0, len(seen)-1-g.dice.Roll(40)):] {
		m, e := krb.Read(data)
		if e == api.OK {
			nonces, boxes = append(nonces, m.Nonce), append(boxes, m.Ticket, m.Sealed)
		}
	}
	terms := g.Terms()
	for n := max(0, len(terms)-4); n < len(terms); n++ { // by symbols a box is no more than its number: that of what was forged, too
		boxes = append(boxes, []byte{83, 0, 0, 0, 0, 0, 0, byte(n >> 8), byte(n)})
	}
	return nonces, boxes
}

// injected gives what the enemy sends: what was seen, whole or changed; or a message of parts that were seen, or forged.
func (g *game) injected() api.Event {
	e := api.Event{Kind: api.EvInject, Who: g.dice.Roll(g.hosts()), K: g.dice.Roll(g.hosts())}
	seen := g.Seen()
	if len(seen) > 0 && g.dice.Roll(3) == 0 {
		e.Data = seen[len(seen)-1-g.dice.Roll(min(len(seen), 30))]
		if i := g.dice.Roll(len(e.Data)); g.dice.Roll(4) == 0 {
			e.Data[i]++
		}
		return e
	}
	nonces, boxes := g.parts()
	m := api.Krb{Kind: 1 + g.dice.Roll(7), Nonce: probe.Pick(g.dice, nonces)}
	switch m.Kind {
	case api.KrbAsReq:
		m.Client, m.Server, m.End = g.anybody(), g.anybody(), begun+int64(g.dice.Roll(2000))
	case api.KrbTgsReq:
		m.Server, m.End = g.anybody(), begun+int64(g.dice.Roll(2000))
		m.Ticket, m.Sealed = probe.Pick(g.dice, boxes), probe.Pick(g.dice, boxes)
	case api.KrbRep, api.KrbApReq:
		m.Ticket, m.Sealed = probe.Pick(g.dice, boxes), probe.Pick(g.dice, boxes)
	case api.KrbApRep, api.KrbData:
		m.Sealed = probe.Pick(g.dice, boxes)
	case api.KrbError:
		m.Code = 1 + g.dice.Roll(120)
	}
	e.Data = write(g.t, m)
	if g.dice.Roll(6) == 0 {
		e.Data, _ = telopt.Write(probe.Pick(g.dice, []api.Tel{telopt.Is(e.Data), telopt.Reply(true, e.Data)}))
	}
	return e
}

// anybody gives the name of a principal.
func (g *game) anybody() string { return probe.Pick(g.dice, g.Entries()).Name }

// forged gives what the enemy seals: what might be a ticket, a grant, an authenticator, or data, with a key that may be a stolen one.
func (g *game) forged() api.Event {
	e := api.Event{Kind: api.EvForge, Who: g.dice.Roll(g.hosts()), K: api.UseTicket + g.dice.Roll(5)}
	if thefts := g.Thefts(); len(thefts) > 0 {
		name := probe.Pick(g.dice, thefts).Name
		for host, own := range g.Entries() {
			if own.Name == name {
				e.Who = host
			}
		}
	}
	key := g.Entries()[e.Who].Key
	nonces, _ := g.parts()
	nonce, now := probe.Pick(g.dice, nonces), g.Now(g.dice.Roll(g.hosts()))
	switch e.K {
	case api.UseTicket:
		e.Data, _ = ticket.Write(api.Ticket{Client: g.anybody(), Server: g.anybody(), Key: key, Start: now, End: now + 500})
	case api.UseGrant:
		e.Data, _ = ticket.WriteGrant(api.Grant{Server: g.anybody(), Key: key, Nonce: nonce, Start: now, End: now + 500})
	case api.UseAuth, api.UseReply:
		e.Data, _ = ticket.WriteAuth(api.Auth{Client: g.anybody(), Time: now - int64(g.dice.Roll(3)), Nonce: nonce, Subkey: key})
	default:
		said := string([]byte{api.ChanIn, 0, 15}) + "run ann whoami\n" + string([]byte{api.ChanControl, 0, 4, 2, 0, 0, 0})
		e.Data, _ = tlv.Join([]api.Field{{Tag: 41, Value: tlv.Num(uint64(g.dice.Roll(2)))}, {Tag: 42, Value: tlv.Num(1)}, {Tag: 43}, {Tag: 44, Value: []byte(said)}})
	}
	return e
}

// TestTwin: P26.1 to P26.3, in long runs a world answers what its twin does.
func TestTwin(t *testing.T) {
	met := map[string]int{}
	for seed := range uint64(80) {
		symbols := seed%2 == 0
		one, two := newGame(t, symbols, seed, seed%3 > 0), newGame(t, symbols, seed, seed%3 > 0)
		two.lands = newTwin(symbols, two.servers, two.clients)
		for _, g := range []*game{one, two} {
			g.thieves = int(seed % 4 * 25)
			g.tells(true)
			g.play(700)
			g.told = append(g.told, g.state(true), fmt.Sprint(g.Seen()), fmt.Sprint(g.Terms()))
		}
		if other := probe.Differ(one.told, two.told); other != "" {
			t.Fatalf("%d: %s", seed, other)
		}
		for told, n := range one.met {
			met[told] += n
		}
	}
	for _, told := range []string{
		"1 ", "1 want errno 1", "1 want errno 2", "1 want errno 110", "1 step errno 171", "2 ", "2 step errno 171", "3 ", "3 mail errno 21", "3 take errno 21", "3 mail errno 67", "3 take errno 67", "3 ap errno 40",
		"3 ap errno 68", "3 take errno 40", "3 step errno 171", "4 ", "5 ", "6 ", "7 ", "7 step errno 90", "8 ", "9 ",
	} {
		if met[told] < 20 {
			t.Errorf("%q was met %d times, of %v", told, met[told], strings.ReplaceAll(fmt.Sprint(met), "errno ", ""))
		}
	}
}

var _ lands = (*world.World)(nil)

package server_test

import (
	"fmt"
	"slices"
	"strings"
	"testing"

	"gangway/api"
	"gangway/krb"
	"gangway/probe"
	"gangway/telopt"
)

// game is a run of many clients at a site, all by dice: what they say comes, is lost, comes again, or late; and much comes that nobody of them said.
type game struct {
	*site
	t        *testing.T
	dice     *probe.Dice
	guests   []*guest
	underWay [][]byte
	seen     [][]byte
	told     []string          // all that was answered
	met      map[api.Errno]int // of Take
}

// play plays a game of so many steps.
func play(t *testing.T, s *site, seed uint64, steps int) *game {
	t.Helper()
	g := &game{site: s, t: t, dice: probe.NewDice(seed), met: map[api.Errno]int{}}
	for i := range steps {
		g.step()
		g.tell(g.Served(), g.Open())
		if i%10 == 0 {
			g.tell(g.Log(), g.files.Nodes())
		}
	}
	return g
}

// tell puts down what was answered.
func (g *game) tell(answers ...any) { g.told = append(g.told, fmt.Sprintf("%v", answers)) }

// step does any one thing.
func (g *game) step() {
	switch n := g.dice.Roll(100); {
	case n < 8 || len(g.guests) == 0:
		g.newGuest()
	case n < 30:
		g.types(g.recent())
	case n < 70 && len(g.underWay) > 0:
		i := g.dice.Roll(min(len(g.underWay), 1+g.dice.Roll(3)))
		data := g.underWay[i]
		if g.dice.Roll(10) > 0 {
			g.underWay = slices.Delete(g.underWay, i, i+1)
		}
		g.deliver(data)
	case n < 75:
		g.underWay = append(g.underWay, g.recent().boxes(g.t)...)
	case n < 90:
		g.now += int64(g.dice.Roll(3) / 2)
		list := g.Tick(g.now)
		g.tell(list)
		g.hear(list)
	case n < 91 && g.dice.Roll(4) == 0:
		g.Restart(g.now)
	case n < 92 && g.dice.Roll(3) == 0:
		for range 38 {
			g.tell(g.Tick(g.now))
		}
	default:
		g.noise()
	}
}

// newGuest lets somebody come; who has come is known by its answer.
func (g *game) newGuest() {
	client := probe.Pick(g.dice, []string{"ann@LAND", "ann@LAND", "bob@LAND", "carl@LAND", "ann@SEA"})
	x := g.asks(g.t, client, g.now+probe.Pick(g.dice, []int64{-20, 5, 15, 1000, 1000, 1000}), uint64(g.dice.Roll(20)), g.dice.Roll(4))
	asked := x.asked
	if g.dice.Roll(4) == 0 {
		asked = []byte(is(g.t, asked))
	}
	g.seen = append(g.seen, asked)
	list, err := g.Take(asked, x.from, g.now)
	g.met[numberOf(err)]++
	g.tell(list, err)
	if err == nil {
		x.finish(g.t, message(list[0].Data))
		g.guests = append(g.guests, x)
	}
}

// message gives the message of data, which may be telnet's stream.
func message(data []byte) []byte {
	if data[0] != 255 {
		return data
	}
	parts, _ := telopt.NewReader().Feed(data)
	_, _, body, _ := telopt.Auth(parts[0])
	return body
}

// recent gives a guest that came late: most of the others are over.
func (g *game) recent() *guest { return probe.Pick(g.dice, g.guests[max(0, len(g.guests)-4):]) }

// types lets a guest say something: at first, mostly, a line that is right.
func (g *game) types(x *guest) {
	account, _, _ := strings.Cut(x.call.Auth.Client, "@")
	if g.dice.Roll(5) == 0 {
		account = probe.Pick(g.dice, []string{"ann", "bob", "ANN"})
	}
	text := probe.Pick(g.dice, []string{
		line(g.dice) + "\r", line(g.dice) + "\n", line(g.dice) + "\r" + line(g.dice) + "\r\nexit " + probe.Pick(g.dice, []string{"3\r", "\r", "300\n"}), "login",
		"D75 0 d\n", "C70 5 f\n01\n34\x00", "C70 5 f\n01\n34\x00", "E\n", "C61 9 .k5login\nbob@LAND\n\x00", "\x03\x15\x7f", "lost\n", strings.Repeat("cat /big\r", 1+g.dice.Roll(5)),
	})
	if !x.began {
		x.began = true
		path := "/users/" + account + "/" + probe.Pick(g.dice, []string{"x", "y", ".k5login"})
		text = probe.Pick(g.dice, []string{"run " + account + " " + line(g.dice) + "\n", "login " + account + " -\n", "copy " + account + " " + path + probe.Pick(g.dice, []string{" plain\n", " modes\n"}), "run ann\n"}) + text
	}
	if g.dice.Roll(20) == 0 {
		text = text[:g.dice.Roll(len(text))]
	}
	x.mux.Write(api.ChanIn, []byte(text))
	if g.dice.Roll(8) == 0 {
		x.mux.Close(g.dice.Roll(5))
	}
	if g.dice.Roll(20) == 0 {
		broken := probe.Pick(g.dice, []string{"\x05", "\x01\x03\x00", "\x04\x00\x01x", "\x00\x00\x02hi", "\x04\x00\x04\x01\x00\x03\xff", "\x04\x00\x04\x02\x00\x00\x00\x00\x00\x01x"})
		g.underWay = append(g.underWay, x.sends(g.t, broken)...)
	}
	g.underWay = append(g.underWay, x.says(g.t)...)
}

// line gives a line for a shell.
func line(d *probe.Dice) string {
	return probe.Pick(d, []string{
		"whoami", "echo some  words", "cat /big", "cat /users/ann/x", "ls /users/ann", "ls /", "put /users/ann/x some", "put /users/bob/y more", "put /users/ann/.k5login ann@LAND", "put /users/ann/.k5login",
		"rm /users/ann/.k5login", "rm /users/ann/x", "mkdir /users/ann/y", "chmod 7 /users/ann/x", "exit 9", "exit", "what", "", " ", "put /users/ann/.k5login bob@LAND",
	})
}

// deliver lets data come, and what is answered is heard.
func (g *game) deliver(data []byte) {
	if len(data) > 0 {
		g.seen = append(g.seen, data)
	}
	list, err := g.Take(data, g.dice.Roll(4), g.now)
	g.met[numberOf(err)]++
	g.tell(list, err)
	g.hear(list)
}

// hear lets mails come to the guests, or be lost.
func (g *game) hear(list []api.Mail) {
	for _, mail := range list {
		g.seen = append(g.seen, mail.Data)
		if g.dice.Roll(8) == 0 {
			continue
		}
		m, _ := krb.Read(message(mail.Data))
		for _, x := range g.guests {
			if m.Kind == api.KrbData && m.Nonce == x.call.Auth.Nonce {
				list, _ := x.listens(g.t, m.Sealed) // it may be of another one with this Nonce, or of a stream that is broken
				g.underWay = append(g.underWay, list...)
			}
		}
	}
}

// noise lets something come that nobody has said just so.
func (g *game) noise() {
	data := slices.Clone(probe.Pick(g.dice, g.seen))
	m, e := krb.Read(data)
	switch g.dice.Roll(7) {
	case 0:
		data = []byte(g.dice.Text(g.dice.Roll(40)))
	case 1:
		data[g.dice.Roll(len(data))]++
	case 2:
		data = data[:g.dice.Roll(len(data))]
	case 3:
		data = []byte(is(g.t, data))
	case 4, 5:
		if e == api.OK {
			m.Nonce = uint64(g.dice.Roll(20))
			data, _ = krb.Write(m)
		}
	}
	g.deliver(data)
}

// TestTwin: P24.1 to P24.5, in long runs the server answers what its twin does.
func TestTwin(t *testing.T) {
	big := probe.File("/big", "ann", 60, strings.Repeat("0123456789", 100))
	met := map[api.Errno]int{}
	full, lines, over := 0, 0, 0
	for seed := range uint64(300) {
		symbols := seed%2 == 0
		a := play(t, newSite(t, symbols, big), seed, 250)
		b := play(t, newTwinSite(t, symbols, big), seed, 250)
		if other := probe.Differ(a.told, b.told); other != "" || !probe.Alike(a.sealer, b.sealer) {
			t.Fatalf("%d: %s", seed, other)
		}
		for e, n := range a.met {
			met[e] += n
		}
		for _, d := range a.Served() {
			lines += len(d.Lines)
			if d.Over {
				over++
			}
		}
		for _, x := range a.guests {
			full += strings.Count(x.got[1], "0123456789")
		}
	}
	for _, e := range []api.Errno{api.OK, api.ErrFull, api.ErrForm, api.ErrChannel, api.ErrLong, api.ErrCredit, api.ErrClosed, api.ErrSeal, api.ErrMatch, api.ErrExpired, api.ErrReplay, api.ErrQuarantine} {
		if met[e] < 20 {
			t.Errorf("%v was met %d times", e, met[e])
		}
	}
	if lines < 1000 || over < 1000 || full < 1000 {
		t.Errorf("%d lines were run, %d sessions are over, %d bytes came", lines, over, 10*full)
	}
}

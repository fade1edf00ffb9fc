package server_test

import (
	"errors"
	"slices"
	"testing"

	"gangway/api"
	"gangway/apx"
	"gangway/frame"
	"gangway/krb"
	"gangway/mux"
	"gangway/priv"
	"gangway/probe"
	"gangway/seal"
	"gangway/server"
	"gangway/ticket"
	"gangway/tlv"
	"gangway/tree"
)

// begun is the time at which the servers of the tests begin.
const begun = 1000

// kinds are those of sealers: by symbols, by sums.
var kinds = []bool{true, false}

// host is what a server does; the twin does the same.
type host interface {
	Take(data []byte, from int, now int64) ([]api.Mail, error)
	Tick(now int64) []api.Mail
	Restart(now int64)
	Served() []api.Served
	Log() []api.Ran
	Open() int
}

// site is a host with its server, and what its clients need.
type site struct {
	host
	sealer *seal.Sealer
	own    api.Entry
	files  *tree.Tree
	now    int64
	nonce  uint64
}

// entry gives the principal of the servers of the tests.
func entry() api.Entry {
	return api.Entry{Name: "host/s1@LAND", Key: api.Key{7, 15: 1}, Life: 1000}
}

// planted gives the tree of a server of the tests.
func planted(more ...api.Node) *tree.Tree {
	return probe.Planted(append([]api.Node{probe.Dir("/users", "root", 61), probe.Dir("/users/ann", "ann", 61), probe.Dir("/users/bob", "bob", 61)}, more...)...)
}

// newSite gives a site whose server has files besides those of all.
func newSite(t *testing.T, symbols bool, more ...api.Node) *site {
	t.Helper()
	return newSiteOf(t, symbols, entry(), "DEFAULT\n", more...)
}

// newSiteOf gives a site of a principal, with rules.
func newSiteOf(t *testing.T, symbols bool, own api.Entry, rules string, more ...api.Node) *site {
	t.Helper()
	s, files := seal.New(symbols, api.Key{0xf2, 15: 1}), planted(more...)
	x, e := server.New(s, own, files, rules, begun)
	return &site{host: must(t, x, e), sealer: s, own: own, files: files, now: begun}
}

// guest is a client that comes to a site, or has come.
type guest struct {
	*site
	from   int
	call   api.Call
	asked  []byte
	key    api.Key
	pipe   *priv.Pipe
	mux    *mux.Mux
	reader *frame.Reader
	waits  []byte
	got    [4]string // what has come on each channel
	began  bool      // whether it has said something (in a game)
}

// must gives what is right, and ends a test where it isn't.
func must[A any](t *testing.T, x A, e api.Errno) A {
	t.Helper()
	if e != api.OK {
		t.Fatalf("%+v, %v", x, e)
	}
	return x
}

// cred gives a principal's ticket for a site, till a time.
func (s *site) cred(t *testing.T, client string, end int64) api.Cred {
	t.Helper()
	key := s.sealer.Fresh()
	box, e := ticket.Seal(s.sealer, s.own.Key, api.Ticket{Client: client, Server: s.own.Name, Key: key, Start: begun - 50, End: end})
	return api.Cred{Client: client, Ticket: must(t, box, e), Grant: api.Grant{Server: s.own.Name, Key: key, Start: begun - 50, End: end}}
}

// asks gives a principal that is about to come to a site from a host, with a ticket till a time, and a Nonce.
func (s *site) asks(t *testing.T, client string, end int64, nonce uint64, from int) *guest {
	t.Helper()
	m, call, err := apx.Make(s.sealer, s.cred(t, client, end), s.now, nonce)
	if err != nil {
		t.Fatal(err)
	}
	data, e := krb.Write(m)
	return &guest{site: s, from: from, call: call, asked: must(t, data, e), mux: mux.New(), reader: frame.NewReader()}
}

// finish looks whether it is the site that has answered, and has a session then.
func (g *guest) finish(t *testing.T, answer []byte) {
	t.Helper()
	m, e := krb.Read(answer)
	session, err := apx.Finish(g.sealer, g.call, must(t, m, e))
	if err != nil {
		t.Fatalf("%+v: %v", m, err)
	}
	g.key = session.Key
	g.pipe = priv.New(g.sealer, g.key, 0)
}

// comes gives a principal that has come to a site.
func (s *site) comes(t *testing.T, client string) *guest {
	t.Helper()
	s.nonce++
	g := s.asks(t, client, begun+1000, s.nonce, 5)
	g.finish(t, one(t, s.takes(t, g.asked, g.from), g.from))
	return g
}

// takes lets a site take data, without an error, and gives what it sends.
func (s *site) takes(t *testing.T, data []byte, from int) []api.Mail {
	t.Helper()
	list, err := s.Take(data, from, s.now)
	if err != nil {
		t.Fatalf("%q: %v", data, err)
	}
	return list
}

// one gives the data of a mail to a host, which is alone.
func one(t *testing.T, list []api.Mail, to int) []byte {
	t.Helper()
	if len(list) != 1 || list[0].From != 0 || list[0].To != to {
		t.Fatalf("%+v, not one mail to %d", list, to)
	}
	return list[0].Data
}

// refuses looks whether a site takes data only with an error at a place, and tells it by a KrbError, or else sends nothing.
func (s *site) refuses(t *testing.T, data []byte, at string, why api.Errno, told bool) {
	t.Helper()
	list, err := s.Take(data, 3, s.now)
	if !probe.IsFault(err, at, why) {
		t.Errorf("%q: %#v, not %v at %s", data, err, why, at)
	}
	if !told {
		if len(list) != 0 {
			t.Errorf("%q: %+v", data, list)
		}
		return
	}
	asked, _ := krb.Read(data)
	if m, e := krb.Read(one(t, list, 3)); e != api.OK || !probe.SameKrb(m, api.Krb{Kind: api.KrbError, Nonce: asked.Nonce, Code: int(why)}) {
		t.Errorf("%q: %+v, %v", data, m, e)
	}
}

// data gives a box as a message of the session.
func (g *guest) data(t *testing.T, box []byte) []byte {
	t.Helper()
	b, e := krb.Write(api.Krb{Kind: api.KrbData, Nonce: g.call.Auth.Nonce, Sealed: box})
	return must(t, b, e)
}

// sends lets bytes go over the pipe as they are, and gives the messages that are new.
func (g *guest) sends(t *testing.T, text string) [][]byte {
	t.Helper()
	g.waits = append(g.waits, text...)
	old := g.pipe.Open()
	for len(g.waits) > 0 {
		n := min(len(g.waits), 1000)
		if g.pipe.Send(g.waits[:n]) != api.OK {
			break
		}
		g.waits = g.waits[n:]
	}
	return g.boxes(t)[old:]
}

// boxes gives all messages that aren't acknowledged.
func (g *guest) boxes(t *testing.T) [][]byte {
	t.Helper()
	var list [][]byte
	for _, box := range g.pipe.Boxes() {
		list = append(list, g.data(t, box))
	}
	return list
}

// frames gives the bytes of all that may go of what waits on the channels.
func (g *guest) frames(t *testing.T) string {
	t.Helper()
	text := ""
	for _, f := range g.mux.Out() {
		b, e := frame.Write(f)
		text += string(must(t, b, e))
	}
	return text
}

// says gives the messages by which all goes that may go of what waits on the channels.
func (g *guest) says(t *testing.T) [][]byte {
	t.Helper()
	return g.sends(t, g.frames(t))
}

// hears takes a message of the server's, and gives what is sent for it.
func (g *guest) hears(t *testing.T, data []byte) [][]byte {
	t.Helper()
	m, e := krb.Read(data)
	must(t, m, e)
	if m.Kind != api.KrbData || m.Nonce != g.call.Auth.Nonce {
		t.Fatalf("%+v", m)
	}
	list, e := g.listens(t, m.Sealed)
	return must(t, list, e)
}

// listens takes a box, reads all that has come, and gives what is sent for it, and the greatest error of what came.
func (g *guest) listens(t *testing.T, box []byte) ([][]byte, api.Errno) {
	t.Helper()
	came, answers, e := g.pipe.Receive(box)
	if e != api.OK {
		return nil, e
	}
	for _, d := range came {
		frames, e2 := g.reader.Feed(d)
		e = max(e, e2)
		for _, f := range frames {
			e = max(e, g.mux.Take(f))
		}
	}
	for channel := range g.got {
		g.got[channel] += string(g.mux.Read(channel, 4096))
	}
	var list [][]byte
	for _, box := range answers {
		list = append(list, g.data(t, box))
	}
	return append(list, g.says(t)...), e
}

// goesOn lets messages come to the site, and what it answers back, till nothing is under way.
func (g *guest) goesOn(t *testing.T, messages [][]byte) {
	t.Helper()
	for len(messages) > 0 {
		list := g.takes(t, messages[0], 99) // what is sent goes to the session's host, wherever this has come from
		messages = messages[1:]
		for _, mail := range list {
			messages = append(messages, g.hears(t, one(t, []api.Mail{mail}, g.from))...)
		}
	}
}

// types says something on ChanIn, all that is under way comes, and the server's answers, too.
func (g *guest) types(t *testing.T, text string) {
	t.Helper()
	for _, piece := range slices.Collect(slices.Chunk([]byte(text), 4000)) {
		must(t, text, g.mux.Write(api.ChanIn, piece))
		g.goesOn(t, g.says(t))
	}
}

// ends says that nothing comes any more.
func (g *guest) ends(t *testing.T) {
	t.Helper()
	must(t, 0, g.mux.Close(api.ChanIn))
	g.goesOn(t, g.says(t))
}

// puts looks whether this has come on the server's channels, and whether they have ended: they have just if there is an exit.
func (g *guest) puts(t *testing.T, out, err, exit string) {
	t.Helper()
	if g.got != [4]string{"", out, err, exit} {
		t.Errorf("%q, not %q, %q, %q", g.got, out, err, exit)
	}
	for channel := range g.got {
		if g.mux.Ended(channel) != (channel != api.ChanIn && exit != "") {
			t.Errorf("%q: channel %d: %v", g.got, channel, g.mux.Ended(channel))
		}
	}
}

// did looks what the session has done.
func (g *guest) did(t *testing.T, want api.Served) {
	t.Helper()
	want.Key, want.Client, want.Nonce = g.key, g.call.Auth.Client, g.call.Auth.Nonce
	list := slices.DeleteFunc(g.Served(), func(d api.Served) bool { return d.Key != g.key })
	if len(list) != 1 || !sameServed(list[0], want) {
		t.Errorf("%+v, not %+v", list, want)
	}
}

// sameServed tells whether two sessions have done one thing; nil and empty are one.
func sameServed(a, b api.Served) bool {
	return a.Key == b.Key && a.Client == b.Client && a.Nonce == b.Nonce && a.Service == b.Service && a.Account == b.Account &&
		slices.Equal(a.Lines, b.Lines) && a.Over == b.Over
}

// numberOf gives the number of an error; OK, if there is none.
func numberOf(err error) api.Errno {
	var e api.Errno
	errors.As(err, &e)
	return e
}

// split gives what is in a box of a pipe: its side, its number, up to which number all has come, and its data.
func split(t *testing.T, plain []byte) [4]string {
	t.Helper()
	values, e := tlv.Values(plain, []int{41, 42, 43, 44})
	must(t, values, e)
	return [4]string{string(values[0]), string(values[1]), string(values[2]), string(values[3])}
}

package client_test

import (
	"bytes"
	"slices"
	"testing"

	"gangway/api"
	"gangway/apx"
	"gangway/base"
	"gangway/client"
	"gangway/kdc"
	"gangway/krb"
	"gangway/link"
	"gangway/probe"
	"gangway/replay"
	"gangway/seal"
	"gangway/telopt"
	"gangway/tree"
)

const (
	begun  = 1000         // the time at which the tests begin
	number = 3            // of the clients of the tests
	before = number << 32 // the Nonce ahead of the first one of theirs
	main   = "krbtgt/LAND@LAND"
	blue   = "host/blue@LAND"
	green  = "host/green@LAND"
	place  = 7 // the host of which most is wanted
)

// kinds are those of sealers: by symbols, by sums.
var kinds = []bool{true, false}

// host is what a client does; the twin does the same.
type host interface {
	Want(w api.Want, to int) api.Errno
	Tick(now int64) []api.Mail
	Take(data []byte, now int64) ([]api.Mail, error)
	Got() []api.Got
}

// site is a host with its client, and all that this one deals with.
type site struct {
	host
	sealer *seal.Sealer
	main   *kdc.Kdc
	files  *tree.Tree
	now    int64
}

// ann gives the principal of the clients of the tests.
func ann() api.Entry {
	return api.Entry{Name: "ann@LAND", Key: api.Key{0xf1, 15: 1}, Life: 500, Flags: api.Forwardable}
}

// entries gives all principals: who gives out tickets, the client, and servers.
func entries() []api.Entry {
	return []api.Entry{
		{Name: main, Key: api.Key{0xf1, 15: 2}, Life: 400, Flags: api.Forwardable}, ann(),
		{Name: blue, Key: api.Key{0xf1, 15: 3}, Life: 300}, {Name: green, Key: api.Key{0xf1, 15: 4}, Life: 200},
	}
}

// entry gives the principal of a name.
func entry(name string) api.Entry {
	all := entries()
	return all[slices.IndexFunc(all, func(e api.Entry) bool { return e.Name == name })]
}

// planted gives the tree of a client of the tests: a file, and a directory with another one.
func planted() *tree.Tree {
	return probe.Planted(probe.File("/f", "root", 56, "data"), probe.Dir("/d", "root", 56), probe.File("/d/g", "root", 48, "more"))
}

// newSite gives a site whose client wants nothing.
func newSite(symbols bool) *site {
	s, b, files := seal.New(symbols, api.Key{0xf2, 15: 1}), base.New(), planted()
	for _, e := range entries() {
		b.Put(e)
	}
	return &site{host: client.New(s, ann(), main, files, number), sealer: s, main: kdc.New(s, b, "LAND"), files: files, now: begun}
}

// run gives a want to run a command.
func run(server, line string) api.Want {
	return api.Want{Service: api.SvcRun, Server: server, Account: "ann", Lines: []string{line}}
}

// wants lets the client want something of the place.
func (s *site) wants(t *testing.T, w api.Want) {
	t.Helper()
	if e := s.Want(w, place); e != api.OK {
		t.Fatalf("%+v: %v", w, e)
	}
}

// ticks lets the client tick, and gives the messages of all that it sends, which goes to a host.
func (s *site) ticks(t *testing.T, to int) []api.Krb {
	t.Helper()
	return read(t, s.Tick(s.now), to)
}

// read gives the messages of mails to a host; what is telnet's stream must be one part of it.
func read(t *testing.T, mails []api.Mail, to int) []api.Krb {
	t.Helper()
	var list []api.Krb
	for _, mail := range mails {
		if mail.From != 0 || mail.To != to {
			t.Fatalf("%+v, not to %d", mail, to)
		}
		data := mail.Data
		if bodies := link.Bodies(data, api.AuthIs); len(bodies) == 1 {
			data = bodies[0]
		}
		m, e := krb.Read(data)
		if e != api.OK {
			t.Fatalf("%+v: %v", mail, e)
		}
		list = append(list, m)
	}
	return list
}

// sends lets the client tick, and gives the message that it sends to a host, which must be one of a kind.
func (s *site) sends(t *testing.T, kind, to int) api.Krb {
	t.Helper()
	list := s.ticks(t, to)
	if len(list) != 1 || list[0].Kind != kind {
		t.Fatalf("%+v, not one of the kind %d", list, kind)
	}
	return list[0]
}

// write gives a message as bytes.
func write(t *testing.T, m api.Krb) []byte {
	t.Helper()
	data, e := krb.Write(m)
	if e != api.OK {
		t.Fatalf("%+v: %v", m, e)
	}
	return data
}

// stream gives a part of telnet's stream as bytes.
func stream(t *testing.T, x api.Tel) string {
	t.Helper()
	data, e := telopt.Write(x)
	if e != api.OK {
		t.Fatalf("%+v: %v", x, e)
	}
	return string(data)
}

// takes lets the client take a message without an error, and gives what it sends.
func (s *site) takes(t *testing.T, m api.Krb) []api.Mail {
	t.Helper()
	list, err := s.Take(write(t, m), s.now)
	if err != nil {
		t.Fatalf("%+v: %v", m, err)
	}
	return list
}

// gets looks whether the client takes a message, and sends nothing for it.
func (s *site) gets(t *testing.T, m api.Krb) {
	t.Helper()
	if list := s.takes(t, m); len(list) != 0 {
		t.Errorf("%+v: %+v", m, list)
	}
}

// refuses looks whether the client takes data only with an error, and sends nothing.
func (s *site) refuses(t *testing.T, data []byte, why api.Errno) {
	t.Helper()
	if list, err := s.Take(data, s.now); len(list) != 0 || !probe.IsFault(err, "take", why) {
		t.Errorf("%q: %+v, %#v, not %v", data, list, err, why)
	}
}

// denies looks whether the client takes a message only with an error.
func (s *site) denies(t *testing.T, m api.Krb, why api.Errno) {
	t.Helper()
	s.refuses(t, write(t, m), why)
}

// answer gives what is answered to a question.
func (s *site) answer(t *testing.T, m api.Krb) api.Krb {
	t.Helper()
	answer, err := s.main.Handle(m, s.now)
	if err != nil {
		t.Fatalf("%+v: %v", m, err)
	}
	return answer
}

// asks lets the client ask for a ticket, if that is what it does, and have it.
func (s *site) asks(t *testing.T, kind int) {
	t.Helper()
	s.gets(t, s.answer(t, s.sends(t, kind, 0)))
}

// far is the server's side of a session.
type far struct {
	*link.Link
	*site
	session api.Session
	said    string // what has come on ChanIn
}

// accepts gives the server's side of the session of who comes by a message, and the answer to it.
func (s *site) accepts(t *testing.T, server string, m api.Krb) (*far, api.Krb) {
	t.Helper()
	x, answer, err := apx.Accept(s.sealer, entry(server), replay.New(s.now), m, s.now)
	if err != nil {
		t.Fatalf("%+v: %v", m, err)
	}
	return &far{Link: link.New(s.sealer, x.Key, x.Nonce, 1), site: s, session: x}, answer
}

// meets lets the client get what lacks of tickets for the only thing that it wants, and come; then it has a session.
func (s *site) meets(t *testing.T, w api.Want) *far {
	t.Helper()
	s.wants(t, w)
	for {
		m := s.ticks(t, 0)
		if len(m) != 1 {
			t.Fatalf("%+v", m)
		}
		s.gets(t, s.answer(t, m[0]))
		if m[0].Kind == api.KrbTgsReq {
			break
		}
	}
	f, answer := s.accepts(t, w.Server, s.sends(t, api.KrbApReq, place))
	s.gets(t, answer)
	return f
}

// receives takes the client's boxes, and gives what came in them, and what is answered to them; the channels hear nothing of it.
func (f *far) receives(t *testing.T, mails []api.Mail) (came [][]byte, answers []api.Krb) {
	t.Helper()
	for _, m := range read(t, mails, place) {
		if m.Kind != api.KrbData || m.Nonce != f.session.Nonce {
			t.Fatalf("%+v", m)
		}
		data, boxes, e := f.Receive(m.Sealed)
		if e != api.OK {
			t.Fatalf("%+v: %v", m, e)
		}
		came, answers = append(came, data...), append(answers, f.Messages(boxes)...)
	}
	return came, answers
}

// hears takes the client's boxes, reads ChanIn, and gives what is sent for them.
func (f *far) hears(t *testing.T, mails []api.Mail) []api.Krb {
	t.Helper()
	came, answers := f.receives(t, mails)
	if e := f.Hear(came); e != api.OK {
		t.Fatal(e)
	}
	f.said += string(f.Read(api.ChanIn, api.MaxCredit))
	return append(answers, f.Messages(f.Say())...)
}

// goesOn lets all messages come to the client, and what it sends back, till nothing is under way.
func (f *far) goesOn(t *testing.T, messages []api.Krb) {
	t.Helper()
	for len(messages) > 0 {
		list := f.takes(t, messages[0])
		messages = append(messages[1:], f.hears(t, list)...)
	}
}

// says lets the server say something on a channel, and all go on.
func (f *far) says(t *testing.T, channel int, text string) {
	t.Helper()
	for piece := range slices.Chunk([]byte(text), 4000) {
		if e := f.Write(channel, piece); e != api.OK {
			t.Fatal(e)
		}
		f.goesOn(t, f.Messages(f.Say()))
	}
}

// ends lets the server end a channel, and all go on.
func (f *far) ends(t *testing.T, channels ...int) {
	t.Helper()
	for _, channel := range channels {
		if e := f.Close(channel); e != api.OK {
			t.Fatal(e)
		}
		f.goesOn(t, f.Messages(f.Say()))
	}
}

// seals gives bytes as the next box of the server's, whatever they are.
func (f *far) seals(t *testing.T, text string) api.Krb {
	t.Helper()
	if e := f.Send([]byte(text)); e != api.OK {
		t.Fatal(e)
	}
	return f.Messages(f.Boxes())[f.Link.Open()-1]
}

// sneaks lets bytes go over the pipe past the channels, and all be acknowledged; what the client sends comes, and isn't heard.
func (f *far) sneaks(t *testing.T, text string) {
	t.Helper()
	messages := []api.Krb{f.seals(t, text)}
	for len(messages) > 0 {
		_, answers := f.receives(t, f.takes(t, messages[0]))
		messages = append(messages[1:], answers...)
	}
	if f.Link.Open() != 0 {
		t.Errorf("%q isn't acknowledged", text)
	}
}

// became looks what became of the last want.
func (s *site) became(t *testing.T, want api.Got) {
	t.Helper()
	list := s.Got()
	if len(list) == 0 || !sameGot(list[len(list)-1], want) {
		t.Errorf("%+v, not %+v", list, want)
	}
}

// with gives what became of the session's want, with some of it otherwise.
func (f *far) with(t *testing.T, change func(*api.Got)) api.Got {
	t.Helper()
	list := f.Got()
	w := list[len(list)-1].Want
	g := api.Got{Want: w, Key: f.session.Key, Nonce: f.session.Nonce, Sent: w.Lines, Confirmed: true}
	change(&g)
	return g
}

// sameGot tells whether of two wants one thing became; nil and empty are one.
func sameGot(a, b api.Got) bool {
	return sameWant(a.Want, b.Want) && a.Done == b.Done && a.Code == b.Code && a.Failed == b.Failed && bytes.Equal(a.Out, b.Out) && bytes.Equal(a.Err, b.Err) &&
		a.Key == b.Key && a.Nonce == b.Nonce && slices.Equal(a.Sent, b.Sent) && a.Confirmed == b.Confirmed
}

// sameWant tells whether two wants are one; nil and empty are.
func sameWant(a, b api.Want) bool {
	return a.Service == b.Service && a.Server == b.Server && a.Account == b.Account && slices.Equal(a.Lines, b.Lines) && a.Path == b.Path && a.To == b.To && a.Modes == b.Modes
}

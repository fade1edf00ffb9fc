package apx_test

import (
	"bytes"
	"math"
	"reflect"
	"strings"
	"testing"

	"gangway/api"
	"gangway/apx"
	"gangway/base"
	"gangway/kdc"
	"gangway/krb"
	"gangway/probe"
	"gangway/replay"
	"gangway/seal"
	"gangway/ticket"
)

const (
	last  = 1 << 40 // the greatest time
	least = math.MinInt64
	most  = math.MaxInt64
)

var (
	hostKey   = api.Key{1, 15: 0xf1}
	ticketKey = api.Key{2, 15: 0xf1}
	otherKey  = api.Key{3, 15: 0xf1}
	kinds     = []bool{true, false} // by symbols, by sums
)

// twins gives two sealers of a kind that do the same.
func twins(symbols bool) (s, twin *seal.Sealer) {
	return seal.New(symbols, api.Key{0xaa}), seal.New(symbols, api.Key{0xaa})
}

// alike looks whether two sealers have drawn and sealed as often; it seals by both.
func alike(t *testing.T, s, twin *seal.Sealer) {
	t.Helper()
	if !probe.Alike(s, twin) {
		t.Errorf("%d drawn, not %d; sealed %+v, not %+v", s.Drawn(), twin.Drawn(), s.Terms(), twin.Terms())
	}
}

// isFault looks whether an error is just a number at a place.
func isFault(t *testing.T, err error, at string, why api.Errno) {
	t.Helper()
	if !probe.IsFault(err, at, why) {
		t.Errorf("%#v, not %v at %s", err, why, at)
	}
}

// sealed seals what must be sealed.
func sealed(t *testing.T, s *seal.Sealer, key api.Key, use int, plain []byte) []byte {
	t.Helper()
	box, e := s.Seal(key, use, plain)
	if e != api.OK {
		t.Fatalf("%q: %v", plain, e)
	}
	return box
}

// authBytes gives the bytes of an authenticator, of any fields.
func authBytes(a api.Auth) []byte {
	return []byte(probe.Field(11, a.Client) + probe.Field(12, probe.Num(uint64(a.Time))) + probe.Field(13, probe.Num(a.Nonce)) + probe.Field(14, string(a.Subkey[:])))
}

// ticketBytes gives the bytes of a ticket, of any fields.
func ticketBytes(x api.Ticket) []byte {
	return []byte(probe.Field(1, x.Client) + probe.Field(2, x.Server) + probe.Field(3, string(x.Key[:])) +
		probe.Field(4, probe.Num(uint64(x.Start))) + probe.Field(5, probe.Num(uint64(x.End))) + probe.Field(6, probe.Num(uint64(x.Flags))))
}

// cred gives an ordinary ticket of a client.
func cred() api.Cred {
	return api.Cred{
		Client: "ann@LAND", Ticket: []byte("a box for s1"),
		Grant: api.Grant{Server: "host/s1@LAND", Key: ticketKey, Nonce: 4, Start: 900, End: 1500, Flags: 1},
	}
}

// sameCall tells whether two calls are one; nil and empty are.
func sameCall(a, b api.Call) bool { return probe.SameCred(a.Cred, b.Cred) && a.Auth == b.Auth }

// makes looks whether a client comes with a ticket at a time, and remembers it.
func makes(t *testing.T, c api.Cred, now int64, nonce uint64) {
	t.Helper()
	for _, symbols := range kinds {
		s, twin := twins(symbols)
		a := api.Auth{Client: c.Client, Time: now, Nonce: nonce, Subkey: twin.Fresh()}
		want := api.Krb{Kind: 4, Nonce: nonce, Ticket: c.Ticket, Sealed: sealed(t, twin, c.Grant.Key, 3, authBytes(a))}
		m, call, err := apx.Make(s, c, now, nonce)
		if err != nil || !probe.SameKrb(m, want) || !sameCall(call, api.Call{Cred: c, Auth: a}) {
			t.Errorf("%+v at %d: %+v, %+v, %v, not %+v", c, now, m, call, err, want)
		}
		if e := krb.Check(m); e != api.OK {
			t.Errorf("%+v: %v", m, e)
		}
		alike(t, s, twin)
	}
}

// TestMake: P13.1, with names, times, nonces, tickets and keys at the edges.
func TestMake(t *testing.T) {
	makes(t, cred(), 1000, 7)
	for _, n := range probe.Names() {
		c := cred()
		c.Client = n
		makes(t, c, 1000, 7)
	}
	for _, now := range []int64{0, 1, 255, 256, last - 1, last} {
		makes(t, cred(), now, 7)
	}
	for _, nonce := range []uint64{0, 1, 256, 1 << 63, math.MaxUint64} {
		makes(t, cred(), 1000, nonce)
	}
	for _, n := range []int{0, 1, 1001, 2999, 3000} {
		c := cred()
		c.Ticket = probe.Bytes(1, n)
		makes(t, c, 1000, 7)
	}
	for _, key := range []api.Key{{}, hostKey, api.Key(probe.Bytes(2, 16))} {
		c := cred()
		c.Grant.Key = key
		makes(t, c, 1000, 7)
	}
}

// TestMakeAnyGrant: P13.1, of the grant only the key plays a part; whether the ticket may still be used, the server tells.
func TestMakeAnyGrant(t *testing.T) {
	for _, g := range []api.Grant{
		{}, {Server: "no name", Start: 5, End: 4, Flags: 77}, {Server: "host/s1@LAND", Start: least, End: most, Flags: math.MinInt},
		{Server: "host/s1@LAND", End: 10}, {Server: strings.Repeat("x", 70000), Start: 2000, End: 3000},
	} {
		c := cred()
		c.Grant = g
		makes(t, c, 1000, 7)
	}
}

// TestMakeErrors: P13.1, what isn't right, alone and with more of it; nothing is drawn or sealed.
func TestMakeErrors(t *testing.T) {
	refuses := func(c api.Cred, now int64) {
		t.Helper()
		for _, symbols := range kinds {
			s, twin := twins(symbols)
			m, call, err := apx.Make(s, c, now, 7)
			isFault(t, err, "make", api.ErrArg)
			if !reflect.DeepEqual(m, api.Krb{}) || !reflect.DeepEqual(call, api.Call{}) {
				t.Errorf("%+v, %+v beside an error", m, call)
			}
			alike(t, s, twin)
		}
	}
	times := []int64{-1, -1000, last + 1, 2 * last, least, most}
	for _, n := range probe.NotNames() {
		c := cred()
		c.Client = n
		refuses(c, 1000)
		refuses(c, -1)
	}
	for _, now := range times {
		refuses(cred(), now)
	}
	for _, n := range []int{3001, 4000, 70000} {
		c := cred()
		c.Ticket = make([]byte, n)
		refuses(c, 1000)
		refuses(c, last+1)
	}
	refuses(api.Cred{}, 0)
}

// coming is who comes to a server, and what stands behind it.
type coming struct {
	own   api.Entry
	nonce uint64
	now   int64
	came  func(*replay.Cache) // what went on ahead

	x                  api.Ticket
	underKey, authKey  api.Key
	ticketUse, authUse int
	a                  api.Auth
	plain, authPlain   []byte         // where there are bytes they are sealed in place of the ticket, or of the authenticator
	change             func(*api.Krb) // what is wrong with the message
}

// right gives one that is let in.
func right() coming {
	return coming{
		own: api.Entry{Name: "host/s1@LAND", Key: hostKey, Life: 900, Flags: 1}, nonce: 7, now: 1000, came: func(*replay.Cache) {},
		x:        api.Ticket{Client: "ann@LAND", Server: "host/s1@LAND", Key: ticketKey, Start: 900, End: 1500, Flags: 1},
		underKey: hostKey, ticketUse: 2, authKey: ticketKey, authUse: 3,
		a: api.Auth{Client: "ann@LAND", Time: 1000, Nonce: 7, Subkey: api.Key{6}}, change: func(*api.Krb) {},
	}
}

// message gives the message with which one comes, sealed by s.
func (c coming) message(t *testing.T, s *seal.Sealer) api.Krb {
	t.Helper()
	plain, authPlain := c.plain, c.authPlain
	if plain == nil {
		plain = ticketBytes(c.x)
	}
	if authPlain == nil {
		authPlain = authBytes(c.a)
	}
	m := api.Krb{Kind: 4, Nonce: c.nonce, Ticket: sealed(t, s, c.underKey, c.ticketUse, plain), Sealed: sealed(t, s, c.authKey, c.authUse, authPlain)}
	c.change(&m)
	return m
}

// cache gives a cache behind what went on ahead.
func (c coming) cache() *replay.Cache {
	r := replay.New(c.now)
	c.came(r)
	return r
}

// isLetIn looks whether one is let in, with the session of its ticket, and the answer that a twin of the sealer makes.
func (c coming) isLetIn(t *testing.T) {
	t.Helper()
	for _, symbols := range kinds {
		s, twin := twins(symbols)
		m, r := c.message(t, s), c.cache()
		c.message(t, twin)
		before := r.Len()
		session, answer, err := apx.Accept(s, c.own, r, m, c.now)
		want := api.Session{Client: c.x.Client, Server: c.own.Name, Key: twin.Fresh(), Nonce: c.nonce, Flags: c.x.Flags, End: c.x.End}
		if err != nil || session != want {
			t.Errorf("%+v at %d: %+v, %v, not %+v", c.x, c.now, session, err, want)
		}
		inBox := authBytes(api.Auth{Client: c.own.Name, Time: c.a.Time, Nonce: c.a.Nonce, Subkey: want.Key})
		wantAnswer := api.Krb{Kind: 5, Nonce: c.nonce, Sealed: sealed(t, twin, c.x.Key, 4, inBox)}
		if e := krb.Check(answer); e != api.OK || !probe.SameKrb(answer, wantAnswer) {
			t.Errorf("%+v, %v, not %+v", answer, e, wantAnswer)
		}
		alike(t, s, twin)
		if e := r.Seen(c.a, c.now); e != api.ErrReplay || r.Len() != before+1 {
			t.Errorf("%+v isn't remembered: %v, %d", c.a, e, r.Len())
		}
	}
}

// isRefused looks whether one is answered by an error; nothing is drawn or sealed for it, and nothing is remembered of it.
func (c coming) isRefused(t *testing.T, why api.Errno) {
	t.Helper()
	for _, symbols := range kinds {
		s, twin := twins(symbols)
		m, r := c.message(t, s), c.cache()
		c.message(t, twin)
		before := r.Len()
		session, answer, err := apx.Accept(s, c.own, r, m, c.now)
		isFault(t, err, "ap", why)
		if session != (api.Session{}) || !reflect.DeepEqual(answer, api.Krb{}) {
			t.Errorf("%+v, %+v beside an error", session, answer)
		}
		if r.Len() != before {
			t.Errorf("%d are remembered, not %d", r.Len(), before)
		}
		alike(t, s, twin)
		if t.Failed() {
			t.Fatalf("%v: %+v, %+v at %d", symbols, c.x, c.a, c.now)
		}
	}
}

// TestAccept: P13.2, with names, times, nonces, flags and keys at the edges.
func TestAccept(t *testing.T) {
	lets := func(change func(*coming)) {
		t.Helper()
		c := right()
		change(&c)
		c.isLetIn(t)
	}
	lets(func(c *coming) {})
	for _, n := range probe.Names() {
		lets(func(c *coming) { c.x.Client, c.a.Client = n, n })
		lets(func(c *coming) { c.x.Server, c.own.Name = n, n })
	}
	for _, start := range []int64{0, 999, 1000, 1001, 1009, 1010} {
		lets(func(c *coming) { c.x.Start = start })
	}
	for _, end := range []int64{990, 991, 1000, 1001, last} {
		lets(func(c *coming) { c.x.End = end })
	}
	for _, time := range []int64{990, 991, 999, 1001, 1009, 1010} {
		lets(func(c *coming) { c.a.Time = time })
	}
	for _, now := range []int64{0, 1, last - 1, last} {
		lets(func(c *coming) { c.now, c.a.Time, c.x.Start, c.x.End = now, now, 0, last })
	}
	lets(func(c *coming) { c.now, c.a.Time, c.x.Start = -10, 0, 0 }) // also a server's clock that is off
	lets(func(c *coming) { c.now, c.a.Time, c.x.End = last+10, last, last })
	for _, nonce := range []uint64{0, 1, 256, 1 << 63, math.MaxUint64} {
		lets(func(c *coming) { c.nonce, c.a.Nonce = nonce, nonce })
	}
	for flags := range 4 {
		lets(func(c *coming) { c.x.Flags = flags })
	}
	for _, key := range []api.Key{{}, hostKey, api.Key(probe.Bytes(2, 16))} {
		lets(func(c *coming) { c.a.Subkey = key })
		lets(func(c *coming) { c.x.Key, c.authKey = key, key })
		lets(func(c *coming) { c.own.Key, c.underKey = key, key })
	}
	for _, own := range []api.Entry{{}, {Life: -5, Flags: 99, Off: true}} { // of which nothing but Name and Key plays a part
		lets(func(c *coming) {
			c.own = api.Entry{Name: c.own.Name, Key: hostKey, Life: own.Life, Flags: own.Flags, Off: own.Off}
		})
	}
}

// flaw is something wrong with what comes, and how it is answered.
type flaw[T any] struct {
	spoil func(*T)
	why   api.Errno
}

// inOrder looks whether each flaw is answered, and of two of them the one that stands first.
func inOrder[T any](right func() T, flaws []flaw[T], isRefused func(T, api.Errno)) {
	for i, first := range flaws {
		x := right()
		first.spoil(&x)
		isRefused(x, first.why)
		for _, second := range flaws[i+1:] {
			y := right()
			second.spoil(&y)
			first.spoil(&y)
			isRefused(y, first.why)
		}
	}
}

// changed gives a flaw in the message itself, behind the other ones.
func changed(change func(*api.Krb)) flaw[coming] {
	return flaw[coming]{func(c *coming) {
		other := c.change
		c.change = func(m *api.Krb) {
			other(m)
			change(m)
		}
	}, api.ErrForm}
}

// flaws gives what may be wrong, in the order in which it is told; no two of them make up for each other.
func flaws() []flaw[coming] {
	grant := probe.Field(21, "host/s1@LAND")
	return []flaw[coming]{
		changed(func(m *api.Krb) { m.Code = 5 }),
		changed(func(m *api.Krb) { m.Client = "ann@LAND" }),
		changed(func(m *api.Krb) { m.Ticket = make([]byte, 3001) }),
		changed(func(m *api.Krb) { m.Sealed = make([]byte, 3001) }),
		changed(func(m *api.Krb) { m.Kind = 3 }),
		changed(func(m *api.Krb) { m.Kind, m.Ticket = 5, nil }),
		changed(func(m *api.Krb) { m.Kind = 0 }),
		{func(c *coming) { c.underKey = otherKey }, api.ErrSeal},
		{func(c *coming) { c.own.Key = api.Key{4} }, api.ErrSeal},
		{func(c *coming) { c.ticketUse = 3 }, api.ErrSeal},
		{func(c *coming) { c.plain = []byte{} }, api.ErrForm},
		{func(c *coming) { c.plain = []byte(grant) }, api.ErrForm},
		{func(c *coming) { c.x.Flags = 4 }, api.ErrForm},
		{func(c *coming) { c.x.Server = "host/s2@LAND" }, api.ErrMatch},
		{func(c *coming) { c.own.Name = "host/s3@LAND" }, api.ErrMatch},
		{func(c *coming) { c.x.Start, c.x.End = 1011, 1500 }, api.ErrEarly},
		{func(c *coming) { c.x.Start, c.x.End = 900, 989 }, api.ErrExpired},
		{func(c *coming) { c.authKey = hostKey }, api.ErrSeal},
		{func(c *coming) { c.authKey = otherKey }, api.ErrSeal},
		{func(c *coming) { c.authUse = 4 }, api.ErrSeal},
		{func(c *coming) { c.authUse = 2 }, api.ErrSeal},
		{func(c *coming) { c.authPlain = []byte{} }, api.ErrForm},
		{func(c *coming) { c.authPlain = []byte(grant) }, api.ErrForm},
		{func(c *coming) { c.a.Client = "bob@LAND" }, api.ErrMatch},
		{func(c *coming) { c.x.Client = "eve@LAND" }, api.ErrMatch},
		{func(c *coming) { c.a.Nonce = 8 }, api.ErrMatch},
		{func(c *coming) { c.nonce = 9 }, api.ErrMatch},
		{func(c *coming) { c.a.Time = 1011 }, api.ErrSkew},
		{func(c *coming) { c.a.Time = 989 }, api.ErrSkew},
		{func(c *coming) { c.a.Time = 0 }, api.ErrSkew},
		{func(c *coming) { c.a.Time = last }, api.ErrSkew},
		{func(c *coming) { c.came = func(r *replay.Cache) { r.Restart(1000) } }, api.ErrQuarantine},
		{func(c *coming) { a := &c.a; c.came = func(r *replay.Cache) { r.Seen(*a, 1000) } }, api.ErrReplay},
		{func(c *coming) { c.came = fill }, api.ErrFull},
	}
}

// fill lets as many authenticators come as are remembered.
func fill(r *replay.Cache) {
	for n := range uint64(16) {
		r.Seen(api.Auth{Client: "eve@LAND", Time: 1000, Nonce: n}, 1000)
	}
}

// TestAcceptErrors: P13.2, the errors, alone and by twos, in their order.
func TestAcceptErrors(t *testing.T) {
	inOrder(right, flaws(), func(c coming, why api.Errno) {
		t.Helper()
		c.isRefused(t, why)
	})
}

// TestAcceptAnyTime: P13.2, a server's clock may tell any number.
func TestAcceptAnyTime(t *testing.T) {
	for now, why := range map[int64]api.Errno{
		least: api.ErrEarly, least + 10: api.ErrEarly, -11: api.ErrEarly, 889: api.ErrEarly, 890: api.ErrSkew, 989: api.ErrSkew, 1011: api.ErrSkew,
		1510: api.ErrSkew, 1511: api.ErrExpired, last + 11: api.ErrExpired, most - 10: api.ErrExpired, most: api.ErrExpired,
	} {
		c := right()
		c.now = now
		c.isRefused(t, why)
	}
	c := right()
	c.now, c.x.Start, c.a.Time = -11, 0, 0
	c.isRefused(t, api.ErrEarly) // ahead of ErrSkew
	c.now, c.x.End, c.a.Time = last+11, last, last
	c.isRefused(t, api.ErrExpired)
}

// TestAcceptBoxes: P13.2, boxes that are none, or that stand in the other's place.
func TestAcceptBoxes(t *testing.T) {
	for _, symbols := range kinds {
		s, _ := twins(symbols)
		c := right()
		m, r := c.message(t, s), c.cache()
		for _, box := range [][]byte{nil, {}, {83}, m.Sealed, m.Ticket[1:], m.Ticket[:len(m.Ticket)-1], append(bytes.Clone(m.Ticket), 0), make([]byte, 3000)} {
			wrong := m
			wrong.Ticket = box
			_, _, err := apx.Accept(s, c.own, r, wrong, c.now)
			isFault(t, err, "ap", api.ErrSeal)
		}
		for _, box := range [][]byte{nil, {}, {83}, m.Ticket, m.Sealed[1:], m.Sealed[:len(m.Sealed)-1], append(bytes.Clone(m.Sealed), 0), make([]byte, 3000)} {
			wrong := m
			wrong.Sealed = box
			_, _, err := apx.Accept(s, c.own, r, wrong, c.now)
			isFault(t, err, "ap", api.ErrSeal)
		}
		if _, _, err := apx.Accept(s, c.own, r, m, c.now); err != nil {
			t.Errorf("the right ones: %v", err)
		}
	}
}

// TestAcceptOnce: P13.2 and the chapter's example, the same message isn't taken again, as long as it may be used; one of another nonce is.
func TestAcceptOnce(t *testing.T) {
	for _, symbols := range kinds {
		s, _ := twins(symbols)
		c := right()
		m, r := c.message(t, s), c.cache()
		first, _, err := apx.Accept(s, c.own, r, m, 1000)
		if err != nil {
			t.Fatal(err)
		}
		for now := int64(1000); now <= 1010; now++ {
			_, _, err := apx.Accept(s, c.own, r, m, now)
			isFault(t, err, "ap", api.ErrReplay)
		}
		_, _, err = apx.Accept(s, c.own, r, m, 1011)
		isFault(t, err, "ap", api.ErrSkew)
		c.nonce, c.a.Nonce = 8, 8
		second, _, err := apx.Accept(s, c.own, r, c.message(t, s), 1010)
		if err != nil || second.Key == first.Key || second.Nonce != 8 {
			t.Errorf("%+v, %v; %+v", second, err, first)
		}
		other := right()
		_, _, err = apx.Accept(s, other.own, other.cache(), m, 1000) // another cache hasn't seen it
		if err != nil {
			t.Error(err)
		}
	}
}

// TestAcceptForgets: P13.2, what the cache forgets for one that comes stays forgotten, also if that is refused.
func TestAcceptForgets(t *testing.T) {
	s, _ := twins(true)
	c := right()
	r := c.cache()
	fill(r)
	c.now, c.a.Time = 1011, 1011
	m := c.message(t, s)
	if _, _, err := apx.Accept(s, c.own, r, m, 1011); err != nil || r.Len() != 1 {
		t.Errorf("%v, %d", err, r.Len())
	}
	_, _, err := apx.Accept(s, c.own, r, m, 1021)
	isFault(t, err, "ap", api.ErrReplay)
	_, _, err = apx.Accept(s, c.own, r, m, 1022)
	isFault(t, err, "ap", api.ErrSkew)
}

// answering is what comes to a client that has come to a server.
type answering struct {
	call   api.Call
	a      api.Auth // in the box
	plain  []byte   // in its place, if there are bytes
	key    api.Key
	use    int
	nonce  uint64
	change func(*api.Krb)
}

// answered gives what is the right answer.
func answered() answering {
	c := cred()
	return answering{
		call: api.Call{Cred: c, Auth: api.Auth{Client: c.Client, Time: 1000, Nonce: 7, Subkey: api.Key{6}}},
		a:    api.Auth{Client: c.Grant.Server, Time: 1000, Nonce: 7, Subkey: api.Key{9, 15: 8}},
		key:  c.Grant.Key, use: 4, nonce: 7, change: func(*api.Krb) {},
	}
}

// message gives the answer's message, sealed by s.
func (x answering) message(t *testing.T, s *seal.Sealer) api.Krb {
	t.Helper()
	plain := x.plain
	if plain == nil {
		plain = authBytes(x.a)
	}
	m := api.Krb{Kind: 5, Nonce: x.nonce, Sealed: sealed(t, s, x.key, x.use, plain)}
	x.change(&m)
	return m
}

// finishes looks whether a client has the session of its call.
func (x answering) finishes(t *testing.T) {
	t.Helper()
	g := x.call.Cred.Grant
	want := api.Session{Client: x.call.Auth.Client, Server: g.Server, Key: x.a.Subkey, Nonce: x.nonce, Flags: g.Flags, End: g.End}
	for _, symbols := range kinds {
		s, twin := twins(symbols)
		m := x.message(t, s)
		x.message(t, twin)
		for range 2 { // it changes nothing
			if got, err := apx.Finish(s, x.call, m); err != nil || got != want {
				t.Errorf("%+v: %+v, %v, not %+v", x.call, got, err, want)
			}
		}
		alike(t, s, twin)
	}
}

// fails looks whether a client isn't answered.
func (x answering) fails(t *testing.T, why api.Errno) {
	t.Helper()
	for _, symbols := range kinds {
		s, twin := twins(symbols)
		m := x.message(t, s)
		x.message(t, twin)
		got, err := apx.Finish(s, x.call, m)
		isFault(t, err, "finish", why)
		if got != (api.Session{}) {
			t.Errorf("%+v beside an error", got)
		}
		alike(t, s, twin)
		if t.Failed() {
			t.Fatalf("%v: %+v, %+v", symbols, x.call, m)
		}
	}
}

// TestFinish: P13.3, with names, times, nonces and keys at the edges; of the grant any End and Flags are told.
func TestFinish(t *testing.T) {
	ends := func(change func(*answering)) {
		t.Helper()
		x := answered()
		change(&x)
		x.finishes(t)
	}
	ends(func(x *answering) {})
	for _, n := range probe.Names() {
		ends(func(x *answering) { x.call.Auth.Client = n })
		ends(func(x *answering) { x.call.Cred.Client = n }) // which plays no part
		ends(func(x *answering) { x.call.Cred.Grant.Server, x.a.Client = n, n })
	}
	for _, time := range []int64{0, 1, last} {
		ends(func(x *answering) { x.call.Auth.Time, x.a.Time = time, time })
	}
	for _, nonce := range []uint64{0, 1, 256, math.MaxUint64} {
		ends(func(x *answering) { x.call.Auth.Nonce, x.a.Nonce, x.nonce = nonce, nonce, nonce })
	}
	for _, key := range []api.Key{{}, hostKey, api.Key(probe.Bytes(2, 16))} {
		ends(func(x *answering) { x.a.Subkey = key })
		ends(func(x *answering) { x.call.Auth.Subkey = key })
		ends(func(x *answering) { x.call.Cred.Grant.Key, x.key = key, key })
	}
	for _, end := range []int64{least, -1, 0, 5, last, most} {
		ends(func(x *answering) { x.call.Cred.Grant.End = end })
		ends(func(x *answering) { x.call.Cred.Grant.Start = end })
		ends(func(x *answering) { x.call.Cred.Grant.Flags, x.call.Cred.Grant.Nonce = int(end), uint64(end) })
	}
	ends(func(x *answering) { x.call.Cred.Ticket = nil })
	ends(func(x *answering) { x.call.Auth.Client = "no name" })
}

// TestFinishErrors: P13.3, the errors, alone and by twos, in their order.
func TestFinishErrors(t *testing.T) {
	grant := []byte(probe.Field(21, "host/s1@LAND"))
	form := func(change func(*api.Krb)) flaw[answering] {
		return flaw[answering]{func(x *answering) { x.change = change }, api.ErrForm}
	}
	list := []flaw[answering]{
		form(func(m *api.Krb) { m.Code = 5 }),
		form(func(m *api.Krb) { m.Ticket = []byte("t") }),
		form(func(m *api.Krb) { m.Sealed = make([]byte, 3001) }),
		form(func(m *api.Krb) { m.Kind = 6 }),
		form(func(m *api.Krb) { m.Kind = 4 }),
		form(func(m *api.Krb) { m.Kind = 0 }),
		form(func(m *api.Krb) { *m = api.Krb{Kind: 7, Nonce: m.Nonce, Code: 66} }),
		{func(x *answering) { x.key = otherKey }, api.ErrSeal},
		{func(x *answering) { x.call.Cred.Grant.Key = api.Key{4} }, api.ErrSeal},
		{func(x *answering) { x.use = 3 }, api.ErrSeal}, // such as the client itself has sent
		{func(x *answering) { x.use = 6 }, api.ErrSeal},
		{func(x *answering) { x.plain = []byte{} }, api.ErrForm},
		{func(x *answering) { x.plain = grant }, api.ErrForm},
		{func(x *answering) { x.nonce = 8 }, api.ErrMatch},
		{func(x *answering) { x.a.Time = 1001 }, api.ErrMatch},
		{func(x *answering) { x.a.Time = 999 }, api.ErrMatch},
		{func(x *answering) { x.a.Nonce = 8 }, api.ErrMatch},
		{func(x *answering) { x.a.Nonce, x.nonce = 9, 9 }, api.ErrMatch},
		{func(x *answering) { x.call.Auth.Nonce = 10 }, api.ErrMatch},
		{func(x *answering) { x.call.Auth.Time = 1010 }, api.ErrMatch},
		{func(x *answering) { x.a.Client = "ann@LAND" }, api.ErrMatch},
		{func(x *answering) { x.call.Cred.Grant.Server = "host/s2@LAND" }, api.ErrMatch},
		{func(x *answering) { x.call.Cred.Grant.Server = "" }, api.ErrMatch},
	}
	inOrder(answered, list, func(x answering, why api.Errno) {
		t.Helper()
		x.fails(t, why)
	})
}

// grantOf gives the grant in an answer's box.
func grantOf(t *testing.T, s *seal.Sealer, key api.Key, m api.Krb) api.Grant {
	t.Helper()
	plain, e1 := s.Open(key, api.UseGrant, m.Sealed)
	g, e2 := ticket.ReadGrant(plain)
	if e1 != api.OK || e2 != api.OK {
		t.Fatalf("%+v: %v, %v", m, e1, e2)
	}
	return g
}

// TestWhole: P13.4, with a ticket that was given out: the client Makes, the server Accepts, the client Finishes, and both have one session.
func TestWhole(t *testing.T) {
	for _, symbols := range kinds {
		s, b := seal.New(symbols, api.Key{7}), base.New()
		own := api.Entry{Name: "host/s1@LAND", Key: hostKey, Life: 900, Flags: 1}
		b.Put(own)
		b.Put(api.Entry{Name: "ann@LAND", Key: otherKey, Life: 800, Flags: 1})
		rep := kdc.New(s, b, "LAND").Answer(api.Krb{Kind: 1, Client: "ann@LAND", Server: own.Name, Nonce: 1, End: 5000, Flags: 1}, 1000)
		c := api.Cred{Client: "ann@LAND", Ticket: rep.Ticket, Grant: grantOf(t, s, otherKey, rep)}
		r, keys := replay.New(1000), map[api.Key]int{}
		for n := range uint64(16) {
			m, call, e1 := apx.Make(s, c, 1005-int64(n%6), n)
			theirs, answer, e2 := apx.Accept(s, own, r, m, 1003)
			ours, e3 := apx.Finish(s, call, answer)
			if e1 != nil || e2 != nil || e3 != nil || ours != theirs {
				t.Fatalf("%v, %v, %v: %+v, %+v", e1, e2, e3, ours, theirs)
			}
			if want := (api.Session{Client: "ann@LAND", Server: own.Name, Key: ours.Key, Nonce: n, Flags: 1, End: 1800}); ours != want {
				t.Errorf("%+v", ours)
			}
			keys[ours.Key]++
		}
		if len(keys) != 16 {
			t.Errorf("%d keys of 16 sessions", len(keys))
		}
	}
}

// TestBothEnds: P13.4, Flags and End are the ticket's there, and the grant's here.
func TestBothEnds(t *testing.T) {
	for _, symbols := range kinds {
		s, _ := twins(symbols)
		own := right().own
		c := cred()
		c.Ticket = sealed(t, s, hostKey, 2, ticketBytes(api.Ticket{Client: c.Client, Server: own.Name, Key: ticketKey, Start: 500, End: 1234, Flags: 3}))
		m, call, e1 := apx.Make(s, c, 1000, 7)
		theirs, answer, e2 := apx.Accept(s, own, replay.New(0), m, 1000)
		ours, e3 := apx.Finish(s, call, answer)
		if e1 != nil || e2 != nil || e3 != nil {
			t.Fatalf("%v, %v, %v", e1, e2, e3)
		}
		if theirs.Flags != 3 || theirs.End != 1234 || ours.Flags != 1 || ours.End != 1500 {
			t.Errorf("%+v, %+v", theirs, ours)
		}
		theirs.Flags, theirs.End = ours.Flags, ours.End
		if ours != theirs || ours.Client != "ann@LAND" || ours.Server != own.Name || ours.Nonce != 7 {
			t.Errorf("%+v, %+v", ours, theirs)
		}
	}
}

// TestOthersAnswers: P13.3, an answer to one coming doesn't answer another, of the same ticket or not; nor does what the client itself has sent.
func TestOthersAnswers(t *testing.T) {
	for _, symbols := range kinds {
		s, _ := twins(symbols)
		own, r := right().own, replay.New(0)
		c := cred()
		c.Ticket = sealed(t, s, hostKey, 2, ticketBytes(right().x))
		m1, one, _ := apx.Make(s, c, 1000, 7)
		m2, two, _ := apx.Make(s, c, 1001, 7)
		_, answer1, e1 := apx.Accept(s, own, r, m1, 1000)
		_, answer2, e2 := apx.Accept(s, own, r, m2, 1000)
		if e1 != nil || e2 != nil {
			t.Fatalf("%v, %v", e1, e2)
		}
		_, err := apx.Finish(s, one, answer2)
		isFault(t, err, "finish", api.ErrMatch)
		_, err = apx.Finish(s, two, answer1)
		isFault(t, err, "finish", api.ErrMatch)
		_, err = apx.Finish(s, one, api.Krb{Kind: 5, Nonce: 7, Sealed: m1.Sealed})
		isFault(t, err, "finish", api.ErrSeal)
		stolen := m1
		stolen.Sealed = sealed(t, s, otherKey, 3, authBytes(one.Auth)) // by who has seen the ticket, but hasn't its key
		_, _, err = apx.Accept(s, own, r, stolen, 1000)
		isFault(t, err, "ap", api.ErrSeal)
		for _, x := range []struct {
			call api.Call
			m    api.Krb
		}{{one, answer1}, {two, answer2}} {
			if _, err := apx.Finish(s, x.call, x.m); err != nil {
				t.Error(err)
			}
		}
	}
}

// spoil writes over texts.
func spoil(texts ...string) {
	for _, s := range texts {
		spoilText(s)
	}
}

// TestMakeKeepsNothing: P13.5, of Make.
func TestMakeKeepsNothing(t *testing.T) {
	for _, symbols := range kinds {
		s, twin := twins(symbols)
		wantM, wantCall, _ := apx.Make(twin, cred(), 1000, 7)
		c := cred()
		text := string(c.Ticket)
		var room []byte
		c.Client, c.Grant.Server = strings.Clone(c.Client), strings.Clone(c.Grant.Server)
		c.Ticket, room = probe.Roomy(text)
		m, call, err := apx.Make(s, c, 1000, 7)
		if err != nil || string(room) != text+probe.Spare || !probe.SameCred(c, cred()) {
			t.Errorf("%v, %q, %+v", err, room, c)
		}
		spoil(c.Client, c.Grant.Server)
		probe.Spoil(c.Ticket)
		if !probe.SameKrb(m, wantM) || !sameCall(call, wantCall) {
			t.Errorf("%+v, %+v", m, call)
		}
		probe.Spoil(m.Ticket)
		if !bytes.Equal(m.Sealed, wantM.Sealed) || !sameCall(call, wantCall) {
			t.Errorf("one answer's lists share memory: %+v, %+v", m, call)
		}
		probe.Spoil(call.Cred.Ticket)
		if !bytes.Equal(m.Sealed, wantM.Sealed) {
			t.Errorf("one answer's lists share memory: %+v", m)
		}
		probe.Spoil(m.Sealed)
		a, e := s.Open(ticketKey, api.UseAuth, wantM.Sealed)
		if e != api.OK || !bytes.Equal(a, authBytes(wantCall.Auth)) {
			t.Errorf("%q, %v", a, e)
		}
	}
}

// TestAcceptKeepsNothing: P13.5, of Accept.
func TestAcceptKeepsNothing(t *testing.T) {
	for _, symbols := range kinds {
		s, twin := twins(symbols)
		c := right()
		m, r := c.message(t, s), c.cache()
		wantSession, wantAnswer, _ := apx.Accept(twin, c.own, c.cache(), c.message(t, twin), c.now)
		x, y := string(m.Ticket), string(m.Sealed)
		var room, room2 []byte
		m.Ticket, room = probe.Roomy(x)
		m.Sealed, room2 = probe.Roomy(y)
		c.own.Name = strings.Clone(c.own.Name)
		session, answer, err := apx.Accept(s, c.own, r, m, c.now)
		if err != nil || string(room) != x+probe.Spare || string(room2) != y+probe.Spare {
			t.Errorf("%v, %q, %q", err, room, room2)
		}
		spoil(c.own.Name)
		probe.Spoil(m.Ticket)
		probe.Spoil(m.Sealed)
		if session != wantSession || !probe.SameKrb(answer, wantAnswer) {
			t.Errorf("%+v, %+v", session, answer)
		}
		if e := r.Seen(c.a, c.now); e != api.ErrReplay {
			t.Errorf("the cache keeps what was handed in: %v", e)
		}
		probe.Spoil(answer.Sealed)
		a, e := s.Open(ticketKey, api.UseReply, wantAnswer.Sealed)
		if e != api.OK || len(a) == 0 {
			t.Errorf("the sealer shares an answer: %q, %v", a, e)
		}
	}
}

// TestFinishKeepsNothing: P13.5, of Finish.
func TestFinishKeepsNothing(t *testing.T) {
	for _, symbols := range kinds {
		s, twin := twins(symbols)
		x := answered()
		m := x.message(t, s)
		want, _ := apx.Finish(twin, x.call, x.message(t, twin))
		text := string(m.Sealed)
		var room, room2 []byte
		m.Sealed, room = probe.Roomy(text)
		x.call.Cred.Ticket, room2 = probe.Roomy("t")
		x.call.Cred.Client, x.call.Cred.Grant.Server, x.call.Auth.Client = strings.Clone("ann@LAND"), strings.Clone("host/s1@LAND"), strings.Clone("ann@LAND")
		got, err := apx.Finish(s, x.call, m)
		if err != nil || string(room) != text+probe.Spare || string(room2) != "t"+probe.Spare {
			t.Errorf("%v, %q, %q", err, room, room2)
		}
		spoil(x.call.Cred.Client, x.call.Cred.Grant.Server, x.call.Auth.Client)
		probe.Spoil(m.Sealed)
		if got != want || want.Client != "ann@LAND" {
			t.Errorf("%+v, not %+v", got, want)
		}
	}
}

// answers gives all that is answered to what is made of a text.
func answers(text string) []any {
	s, r := seal.New(len(text)%2 == 0, api.Key{2}), replay.New(0)
	data := []byte(text)
	var out []any
	for i, now := range []int64{0, last, least, most, -5} {
		c := api.Cred{Client: text, Ticket: data, Grant: api.Grant{Server: text[len(text)/2:], Key: hostKey}}
		m, call, err := apx.Make(s, c, now, uint64(now))
		out = append(out, m, call, err)
		own := api.Entry{Name: text, Key: hostKey}
		for kind := range 8 {
			m := api.Krb{Kind: kind, Nonce: uint64(i), Ticket: data, Sealed: data}
			session, answer, err := apx.Accept(s, own, r, m, now)
			out = append(out, session, answer, err)
			m.Ticket = nil
			session, err = apx.Finish(s, api.Call{Cred: c, Auth: api.Auth{Client: text, Time: now}}, m)
			out = append(out, session, err)
		}
		x := sealedOf(s, hostKey, 2, ticketBytes(api.Ticket{Client: text, Server: text, End: last}))
		a := sealedOf(s, api.Key{}, 3, authBytes(api.Auth{Client: text, Time: max(0, min(now, last))}))
		session, answer, err := apx.Accept(s, own, r, api.Krb{Kind: 4, Ticket: x, Sealed: a}, now)
		out = append(out, session, answer, err)
	}
	return append(out, s.Drawn(), s.Terms(), r.Len())
}

// sealedOf seals bytes, if they may be sealed.
func sealedOf(s *seal.Sealer, key api.Key, use int, plain []byte) []byte {
	box, _ := s.Seal(key, use, plain)
	return box
}

// TestAnyArguments: P1 and P2, each call ends, without a panic, and answers the same in a second run.
func TestAnyArguments(t *testing.T) {
	if s, parts := probe.Parting(probe.Texts("a@/\x00\xff", 4), answers, reflect.DeepEqual); parts {
		t.Errorf("%q: two runs part", s)
	}
	if !reflect.DeepEqual(answers("ann@LAND"), answers("ann@LAND")) {
		t.Error("ann@LAND: two runs part")
	}
}

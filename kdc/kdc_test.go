package kdc_test

import (
	"bytes"
	"fmt"
	"math"
	"reflect"
	"slices"
	"testing"

	"gangway/api"
	"gangway/base"
	"gangway/kdc"
	"gangway/krb"
	"gangway/probe"
	"gangway/seal"
	"gangway/ticket"
)

const (
	main     = "krbtgt/LAND@LAND"
	last     = 1 << 40 // the greatest time of a ticket
	greatest = 1 << 39 // the greatest now
)

var (
	mainKey = api.Key{1, 15: 0xf1}
	annKey  = api.Key{2, 15: 0xf1}
	hostKey = api.Key{3, 15: 0xf1}
	tgtKey  = api.Key{4, 15: 0xf1} // of the first ticket
	kinds   = []bool{true, false}  // by symbols, by sums
)

// land gives the principals of LAND.
func land() []api.Entry {
	return []api.Entry{
		{Name: main, Key: mainKey, Life: 700, Flags: 1},
		{Name: "ann@LAND", Key: annKey, Life: 800, Flags: 1},
		{Name: "host/s1@LAND", Key: hostKey, Life: 900, Flags: 1},
		{Name: "off@LAND", Key: api.Key{9}, Life: 900, Flags: 1, Off: true},
	}
}

// asking is a question, and what stands behind it.
type asking struct {
	entries []api.Entry
	m       api.Krb
	now     int64

	// of a KrbTgsReq; where there are bytes (Plain), they are sealed in place of the ticket or the authenticator
	first            api.Ticket
	firstKey, ofAuth api.Key
	firstUse, use    int
	firstPlain       []byte
	auth             api.Auth
	authPlain        []byte
}

// asAsking gives a KrbAsReq that is answered by a ticket.
func asAsking() asking {
	return asking{entries: land(), now: 1000, m: api.Krb{Kind: api.KrbAsReq, Client: "ann@LAND", Server: main, Nonce: 77, End: 1500, Flags: 1}}
}

// tgsAsking gives a KrbTgsReq that is answered by a ticket.
func tgsAsking() asking {
	return asking{
		entries: land(), now: 1000, m: api.Krb{Kind: api.KrbTgsReq, Server: "host/s1@LAND", Nonce: 78, End: 1400, Flags: 1},
		first:    api.Ticket{Client: "ann@LAND", Server: main, Key: tgtKey, Start: 900, End: 1500, Flags: 1},
		firstKey: mainKey, firstUse: 2, ofAuth: tgtKey, use: 3,
		auth: api.Auth{Client: "ann@LAND", Time: 1000, Nonce: 5, Subkey: api.Key{6}},
	}
}

// entry gives the entry of a name, to be changed.
func (a *asking) entry(name string) *api.Entry {
	i := slices.IndexFunc(a.entries, func(e api.Entry) bool { return e.Name == name })
	return &a.entries[i]
}

// drop takes an entry out.
func (a *asking) drop(name string) {
	a.entries = slices.DeleteFunc(a.entries, func(e api.Entry) bool { return e.Name == name })
}

// pose gives the one that is asked, and the question, with what it has sealed by s.
func (a asking) pose(t *testing.T, s *seal.Sealer) (*kdc.Kdc, api.Krb) {
	t.Helper()
	b := base.New()
	for _, e := range a.entries {
		if no := b.Put(e); no != api.OK {
			t.Fatalf("%+v: %v", e, no)
		}
	}
	if a.m.Kind == api.KrbTgsReq {
		plain, auth := a.firstPlain, a.authPlain
		if plain == nil {
			plain, _ = ticket.Write(a.first)
		}
		if auth == nil {
			auth, _ = ticket.WriteAuth(a.auth)
		}
		a.m.Ticket = sealed(t, s, a.firstKey, a.firstUse, plain)
		a.m.Sealed = sealed(t, s, a.ofAuth, a.use, auth)
	}
	return kdc.New(s, b, "LAND"), a.m
}

// sealed seals what must be sealed.
func sealed(t *testing.T, s *seal.Sealer, key api.Key, use int, plain []byte) []byte {
	t.Helper()
	box, e := s.Seal(key, use, plain)
	if e != api.OK {
		t.Fatalf("%q: %v", plain, e)
	}
	return box
}

// alike looks whether two sealers have drawn and sealed as often; it seals by both.
func alike(t *testing.T, s, twin *seal.Sealer) {
	t.Helper()
	if !probe.Alike(s, twin) {
		t.Errorf("%d drawn, not %d; sealed %+v, not %+v", s.Drawn(), twin.Drawn(), s.Terms(), twin.Terms())
	}
}

// answer gives the answer with a ticket that a twin of the sealer makes: x, but for its key, under a key, and its grant under another one.
func answer(t *testing.T, twin *seal.Sealer, x api.Ticket, key, grantKey api.Key, nonce uint64) api.Krb {
	t.Helper()
	x.Key = twin.Fresh()
	plain, e1 := ticket.Write(x)
	grant, e2 := ticket.WriteGrant(api.Grant{Server: x.Server, Key: x.Key, Nonce: nonce, Start: x.Start, End: x.End, Flags: x.Flags})
	if e1 != api.OK || e2 != api.OK {
		t.Fatalf("%+v: %v, %v", x, e1, e2)
	}
	box := sealed(t, twin, key, 2, plain)
	return api.Krb{Kind: api.KrbRep, Nonce: nonce, Ticket: box, Sealed: sealed(t, twin, grantKey, 5, grant)}
}

// gives looks whether a question is answered by this ticket (but for its key), under a key, with its grant under another one.
func (a asking) gives(t *testing.T, x api.Ticket, key, grantKey api.Key) {
	t.Helper()
	for _, symbols := range kinds {
		seed := api.Key{0xaa}
		s, other, twin := seal.New(symbols, seed), seal.New(symbols, seed), seal.New(symbols, seed)
		a.pose(t, twin)
		want := answer(t, twin, x, key, grantKey, a.m.Nonce)
		k, m := a.pose(t, s)
		if got, err := k.Handle(m, a.now); err != nil || !probe.SameKrb(got, want) {
			t.Errorf("%+v at %d: %+v, %v, not %+v", m, a.now, got, err, want)
		} else if e := krb.Check(got); e != api.OK {
			t.Errorf("%+v: %v", got, e)
		}
		k, m = a.pose(t, other)
		if got := k.Answer(m, a.now); !probe.SameKrb(got, want) {
			t.Errorf("%+v at %d: Answer: %+v, not %+v", m, a.now, got, want)
		}
		alike(t, s, other)
		sealed(t, twin, api.Key{}, 0, nil)
		alike(t, s, twin)
	}
}

// isFault looks whether an error is just a number at a place.
func isFault(t *testing.T, err error, at string, why api.Errno) {
	t.Helper()
	if !probe.IsFault(err, at, why) {
		t.Errorf("%#v, not %v at %s", err, why, at)
	}
}

// refuses looks whether a question is answered by an error, and nothing is drawn or sealed for it.
func (a asking) refuses(t *testing.T, at string, why api.Errno) {
	t.Helper()
	for _, symbols := range kinds {
		s, twin := seal.New(symbols, api.Key{0xaa}), seal.New(symbols, api.Key{0xaa})
		a.pose(t, twin)
		k, m := a.pose(t, s)
		got, err := k.Handle(m, a.now)
		isFault(t, err, at, why)
		if !probe.SameKrb(got, api.Krb{}) {
			t.Errorf("%+v beside an error", got)
		}
		want := api.Krb{Kind: api.KrbError, Nonce: m.Nonce, Code: int(why)}
		if got := k.Answer(m, a.now); !probe.SameKrb(got, want) {
			t.Errorf("Answer: %+v, not %+v", got, want)
		}
		alike(t, s, twin)
		if t.Failed() {
			t.Fatalf("%v: %+v at %d", symbols, m, a.now)
		}
	}
}

// TestMainName: P10.1, the name is made of the realm, whatever that is.
func TestMainName(t *testing.T) {
	for realm, want := range map[string]string{"LAND": main, "x.y": "krbtgt/x.y@x.y", "": "krbtgt/@", "a@b/\x00": "krbtgt/a@b/\x00@a@b/\x00"} {
		if got := kdc.New(seal.New(true, api.Key{}), base.New(), realm).Main(); got != want {
			t.Errorf("%q: %q", realm, got)
		}
	}
}

// TestForm: P10.2, messages that aren't right, or of other kinds, and times that aren't.
func TestForm(t *testing.T) {
	for _, a := range []asking{asAsking(), tgsAsking()} {
		for _, now := range []int64{-1, -1000, greatest + 1, last, math.MaxInt64, math.MinInt64} {
			a.now = now
			a.refuses(t, "message", api.ErrForm)
		}
	}
	for _, m := range []api.Krb{
		{}, {Kind: 0, Nonce: 4}, {Kind: 8, Nonce: 5}, {Kind: -1}, {Kind: math.MaxInt}, {Kind: 257},
		{Kind: 3, Nonce: 1, Ticket: []byte("t"), Sealed: []byte("s")}, {Kind: 4, Nonce: 2, Ticket: []byte("t"), Sealed: []byte("s")},
		{Kind: 5, Nonce: 3, Sealed: []byte("s")}, {Kind: 6, Nonce: math.MaxUint64, Sealed: []byte("s")}, {Kind: 7, Nonce: 5, Code: 66},
	} {
		a := asAsking()
		a.m = m
		a.refuses(t, "message", api.ErrForm)
	}
	for _, change := range []func(m *api.Krb){
		func(m *api.Krb) { m.Client = "ann" }, func(m *api.Krb) { m.Client = "" }, func(m *api.Krb) { m.Server = "a b@LAND" }, func(m *api.Krb) { m.Server = "" },
		func(m *api.Krb) { m.End = -1 }, func(m *api.Krb) { m.End = last + 1 }, func(m *api.Krb) { m.Flags = -1 }, func(m *api.Krb) { m.Flags = 4 },
		func(m *api.Krb) { m.Code = 66 }, func(m *api.Krb) { m.Ticket = []byte("t") }, func(m *api.Krb) { m.Sealed = []byte("s") },
	} {
		a := asAsking()
		change(&a.m)
		a.refuses(t, "message", api.ErrForm)
	}
	for _, change := range []func(m *api.Krb){
		func(m *api.Krb) { m.Client = "ann@LAND" }, func(m *api.Krb) { m.Server = "s1" }, func(m *api.Krb) { m.End = -1 }, func(m *api.Krb) { m.End = last + 1 },
		func(m *api.Krb) { m.Flags = 4 }, func(m *api.Krb) { m.Code = 1 },
	} {
		a := tgsAsking()
		change(&a.m)
		a.refuses(t, "message", api.ErrForm)
	}
	a := tgsAsking()
	k, m := a.pose(t, seal.New(false, api.Key{}))
	for _, change := range []func(m *api.Krb){func(m *api.Krb) { m.Ticket = make([]byte, 3001) }, func(m *api.Krb) { m.Sealed = make([]byte, 3001) }} {
		wrong := m
		change(&wrong)
		_, err := k.Handle(wrong, 1000)
		isFault(t, err, "message", api.ErrForm)
	}
}

// TestAs: P10.3, of clients and servers, of each one's Life, and at the edges of time.
func TestAs(t *testing.T) {
	for _, x := range []struct {
		now, end, client, server, want int64
	}{
		{100, 500, 50, 1000, 150}, {100, 500, 1000, 50, 150}, {100, 500, 50, 60, 150}, {100, 500, 60, 50, 150}, {100, 500, 400, 400, 500}, {100, 500, 399, 400, 499},
		{100, 500, 400, 399, 499}, {100, 500, 401, 401, 500}, {100, 100, 50, 50, 100}, {100, 101, 1, 1, 101}, {100, 102, 1, 1, 101}, {100, 102, 1, 2, 101},
		{0, 0, 1, 1, 0}, {0, last, 1, 1, 1}, {0, last, last, last, last}, {0, last, last - 1, last, last - 1}, {greatest, greatest, last, last, greatest},
		{greatest, last, last, last, last}, {greatest, last, last, 1, greatest + 1}, {1, last, last, last, last}, {greatest, last, greatest - 1, last, last - 1},
	} {
		a := asAsking()
		a.now, a.m.End = x.now, x.end
		a.entry("ann@LAND").Life, a.entry(main).Life = x.client, x.server
		a.gives(t, api.Ticket{Client: "ann@LAND", Server: main, Start: x.now, End: x.want, Flags: 1}, mainKey, annKey)
	}
	for _, nonce := range []uint64{0, 1, 255, 256, 1 << 63, math.MaxUint64} {
		a := asAsking()
		a.m.Nonce, a.m.Server = nonce, "host/s1@LAND" // no other ticket is asked for it
		a.gives(t, api.Ticket{Client: "ann@LAND", Server: "host/s1@LAND", Start: 1000, End: 1500, Flags: 1}, hostKey, annKey)
	}
	a := asAsking()
	a.m.Client, a.m.Server = "host/s1@LAND", "host/s1@LAND"
	a.gives(t, api.Ticket{Client: "host/s1@LAND", Server: "host/s1@LAND", Start: 1000, End: 1500, Flags: 1}, hostKey, hostKey)
	a.drop(main) // which plays no part here
	a.gives(t, api.Ticket{Client: "host/s1@LAND", Server: "host/s1@LAND", Start: 1000, End: 1500, Flags: 1}, hostKey, hostKey)
}

// TestAsFlags: P10.3, each flag that is asked for must be among those of both.
func TestAsFlags(t *testing.T) {
	for flags := range 4 {
		for client := range 2 {
			for server := range 2 {
				a := asAsking()
				a.m.Flags = flags
				a.entry("ann@LAND").Flags, a.entry(main).Flags = client, server
				if flags == 0 || flags == 1 && client == 1 && server == 1 {
					a.gives(t, api.Ticket{Client: "ann@LAND", Server: main, Start: 1000, End: 1500, Flags: flags}, mainKey, annKey)
				} else {
					a.refuses(t, "as", api.ErrPolicy)
				}
			}
		}
	}
}

// flaw is something wrong with a question, and how it is answered.
type flaw struct {
	spoil func(*asking)
	at    string
	why   api.Errno
}

// inOrder looks whether each flaw is answered, and of two of them the one that stands first.
func inOrder(t *testing.T, right func() asking, flaws []flaw) {
	t.Helper()
	for i, first := range flaws {
		a := right()
		first.spoil(&a)
		a.refuses(t, first.at, first.why)
		for _, second := range flaws[i+1:] {
			b := right()
			second.spoil(&b)
			first.spoil(&b)
			b.refuses(t, first.at, first.why)
		}
	}
}

// TestAsErrors: P10.3, the errors, in their order.
func TestAsErrors(t *testing.T) {
	inOrder(t, asAsking, []flaw{
		{func(a *asking) { a.m.Code = 5 }, "message", api.ErrForm},
		{func(a *asking) { a.m.Client = "eve@LAND" }, "as", api.ErrClient},
		{func(a *asking) { a.m.Client = "off@LAND" }, "as", api.ErrClient},
		{func(a *asking) { a.drop("ann@LAND") }, "as", api.ErrClient},
		{func(a *asking) { a.m.Server = "host/s9@LAND" }, "as", api.ErrServer},
		{func(a *asking) { a.m.Server = "off@LAND" }, "as", api.ErrServer},
		{func(a *asking) { a.drop(main) }, "as", api.ErrServer},
		{func(a *asking) { a.m.Flags = 2 }, "as", api.ErrPolicy},
		{func(a *asking) { a.m.Flags = 3 }, "as", api.ErrPolicy},
		{func(a *asking) { a.m.End = 0 }, "as", api.ErrExpired},
		{func(a *asking) { a.m.End = 999 }, "as", api.ErrExpired},
	})
}

// TestTgs: P10.4, the End, of each that it may be, and tickets that are just valid.
func TestTgs(t *testing.T) {
	for _, x := range []struct {
		now, end, first, life, want int64
	}{
		{1000, 1400, 1500, 900, 1400}, {1000, 1500, 1400, 900, 1400}, {1000, 1400, 1500, 300, 1300}, {1000, 1500, 1400, 300, 1300}, {1000, 1300, 1300, 300, 1300},
		{1000, 1400, 1500, 400, 1400}, {1000, 1400, 1500, 399, 1399}, {1000, 1500, 1400, 399, 1399}, {1000, 1000, 1500, 900, 1000}, {1000, 1400, 1000, 900, 1000},
		{1000, 1001, 1001, 1, 1001}, {1000, 1002, 1002, 1, 1001}, {0, last, last, last, last}, {greatest, last, last, last, last}, {greatest, last, last, 1, greatest + 1},
		{greatest, greatest, last, last, greatest}, {greatest, last, greatest, last, greatest}, {0, 0, 0, 1, 0}, {0, 0, last, last, 0},
	} {
		a := tgsAsking()
		a.now, a.auth.Time, a.m.End, a.first.Start, a.first.End = x.now, x.now, x.end, 0, x.first
		a.entry("host/s1@LAND").Life = x.life
		a.gives(t, api.Ticket{Client: "ann@LAND", Server: "host/s1@LAND", Start: x.now, End: x.want, Flags: 1}, hostKey, tgtKey)
	}
	want := api.Ticket{Client: "ann@LAND", Server: "host/s1@LAND", Start: 1000, End: 1400, Flags: 1}
	for _, start := range []int64{0, 999, 1000, 1001, 1010} {
		a := tgsAsking()
		a.first.Start = start
		a.gives(t, want, hostKey, tgtKey)
	}
	for _, time := range []int64{990, 991, 999, 1000, 1001, 1009, 1010} {
		a := tgsAsking()
		a.auth.Time, a.auth.Nonce, a.auth.Subkey = time, uint64(time), api.Key{}
		a.gives(t, want, hostKey, tgtKey)
	}
	for _, nonce := range []uint64{0, 1, 256, math.MaxUint64} {
		a := tgsAsking()
		a.m.Nonce = nonce
		a.gives(t, want, hostKey, tgtKey)
	}
}

// TestTgsWho: P10.4, the ticket is for whom the first one names, whether there is an entry or not; also for the one that is asked.
func TestTgsWho(t *testing.T) {
	want := api.Ticket{Client: "ann@LAND", Server: "host/s1@LAND", Start: 1000, End: 1400, Flags: 1}
	a := tgsAsking()
	*a.entry("ann@LAND") = api.Entry{Name: "ann@LAND", Life: 1} // of which nothing plays a part
	a.gives(t, want, hostKey, tgtKey)
	a.entry("ann@LAND").Off = true
	a.gives(t, want, hostKey, tgtKey)
	a.drop("ann@LAND")
	a.gives(t, want, hostKey, tgtKey)
	*a.entry(main) = api.Entry{Name: main, Key: mainKey, Life: 1} // only the key does
	a.gives(t, want, hostKey, tgtKey)
	for _, name := range []string{"eve@SEA", "off@LAND", "host/s1@LAND", main} {
		a := tgsAsking()
		a.first.Client, a.auth.Client = name, name
		a.gives(t, api.Ticket{Client: name, Server: "host/s1@LAND", Start: 1000, End: 1400, Flags: 1}, hostKey, tgtKey)
	}
	a = tgsAsking()
	a.m.Server = main
	a.gives(t, api.Ticket{Client: "ann@LAND", Server: main, Start: 1000, End: 1400, Flags: 1}, mainKey, tgtKey)
}

// TestTgsFlags: P10.4, what may be asked for, and that what was forwarded stays so.
func TestTgsFlags(t *testing.T) {
	for flags := range 4 {
		for first := range 4 {
			for server := range 2 {
				a := tgsAsking()
				a.m.Flags, a.first.Flags = flags, first
				a.entry("host/s1@LAND").Flags = server
				forwardable := flags == 1 || flags == 3
				own := first == 1 || first == 3
				if forwardable && (!own || server == 0) || flags >= 2 && !own {
					a.refuses(t, "tgs", api.ErrPolicy)
					continue
				}
				want := flags
				if first >= 2 && flags < 2 {
					want += 2
				}
				a.gives(t, api.Ticket{Client: "ann@LAND", Server: "host/s1@LAND", Start: 1000, End: 1400, Flags: want}, hostKey, tgtKey)
			}
		}
	}
}

// TestTgsErrors: P10.4, the errors, in their order.
func TestTgsErrors(t *testing.T) {
	grant, _ := ticket.WriteGrant(api.Grant{Server: main, Key: tgtKey, Start: 900, End: 1500})
	inOrder(t, tgsAsking, []flaw{
		{func(a *asking) { a.m.Code = 5 }, "message", api.ErrForm},
		{func(a *asking) { a.drop(main) }, "tgs", api.ErrServer},
		{func(a *asking) { a.firstKey = hostKey }, "tgs", api.ErrSeal},
		{func(a *asking) { a.firstUse = 3 }, "tgs", api.ErrSeal},
		{func(a *asking) { a.firstPlain = grant }, "tgs", api.ErrForm},
		{func(a *asking) { a.firstPlain = []byte{} }, "tgs", api.ErrForm},
		{func(a *asking) { a.first.Server = "host/s1@LAND" }, "tgs", api.ErrMatch},
		{func(a *asking) { a.first.Server = "krbtgt/LAND@SEA" }, "tgs", api.ErrMatch},
		{func(a *asking) { a.first.Start, a.first.End = 1011, 1500 }, "tgs", api.ErrEarly},
		{func(a *asking) { a.first.Start, a.first.End = 900, 989 }, "tgs", api.ErrExpired},
		{func(a *asking) { a.ofAuth = mainKey }, "tgs", api.ErrSeal},
		{func(a *asking) { a.ofAuth = annKey }, "tgs", api.ErrSeal},
		{func(a *asking) { a.use = 2 }, "tgs", api.ErrSeal},
		{func(a *asking) { a.authPlain = grant }, "tgs", api.ErrForm},
		{func(a *asking) { a.authPlain = []byte{} }, "tgs", api.ErrForm},
		{func(a *asking) { a.auth.Client = "bob@LAND" }, "tgs", api.ErrMatch},
		{func(a *asking) { a.auth.Time = 1011 }, "tgs", api.ErrSkew},
		{func(a *asking) { a.auth.Time = 989 }, "tgs", api.ErrSkew},
		{func(a *asking) { a.auth.Time = last }, "tgs", api.ErrSkew},
		{func(a *asking) { a.auth.Time = 0 }, "tgs", api.ErrSkew},
		{func(a *asking) { a.m.Server = "host/s9@LAND" }, "tgs", api.ErrServer},
		{func(a *asking) { a.m.Server = "off@LAND" }, "tgs", api.ErrServer},
		{func(a *asking) { a.first.Flags = 0 }, "tgs", api.ErrPolicy},
		{func(a *asking) { a.first.Flags, a.m.Flags = 2, 2 }, "tgs", api.ErrPolicy},
		{func(a *asking) { a.m.End = 999 }, "tgs", api.ErrExpired},
		{func(a *asking) { a.first.End = 999 }, "tgs", api.ErrExpired},
		{func(a *asking) { a.first.Start, a.first.End = 900, 990 }, "tgs", api.ErrExpired},
	})
}

// TestTgsOff: P10.4, its own entry is of no use when it is Off.
func TestTgsOff(t *testing.T) {
	a := tgsAsking()
	a.entry(main).Off = true
	a.refuses(t, "tgs", api.ErrServer)
}

// TestTgsBoxes: P10.4, boxes that are none, or that stand in the other's place.
func TestTgsBoxes(t *testing.T) {
	for _, symbols := range kinds {
		k, m := tgsAsking().pose(t, seal.New(symbols, api.Key{0xaa}))
		for _, box := range [][]byte{nil, {}, {83}, m.Sealed, m.Ticket[1:], m.Ticket[:len(m.Ticket)-1], append(bytes.Clone(m.Ticket), 0), make([]byte, 3000)} {
			wrong := m
			wrong.Ticket = box
			_, err := k.Handle(wrong, 1000)
			isFault(t, err, "tgs", api.ErrSeal)
		}
		for _, box := range [][]byte{nil, {}, {83}, m.Ticket, m.Sealed[1:], m.Sealed[:len(m.Sealed)-1], append(bytes.Clone(m.Sealed), 0), make([]byte, 3000)} {
			wrong := m
			wrong.Sealed = box
			_, err := k.Handle(wrong, 1000)
			isFault(t, err, "tgs", api.ErrSeal)
		}
		if _, err := k.Handle(m, 1000); err != nil {
			t.Errorf("the right ones: %v", err)
		}
	}
}

// TestOtherRealm: P10.4, its own name counts, not that of another realm that the base has, too.
func TestOtherRealm(t *testing.T) {
	s, b := seal.New(true, api.Key{}), base.New()
	for _, e := range land() {
		b.Put(e)
	}
	b.Put(api.Entry{Name: "krbtgt/SEA@SEA", Key: api.Key{8}, Life: 10, Flags: 1})
	_, m := tgsAsking().pose(t, s)
	_, err := kdc.New(s, b, "SEA").Handle(m, 1000)
	isFault(t, err, "tgs", api.ErrSeal)
	_, err = kdc.New(s, b, "AIR").Handle(m, 1000)
	isFault(t, err, "tgs", api.ErrServer)
	if _, err := kdc.New(s, b, "LAND").Handle(m, 1000); err != nil {
		t.Error(err)
	}
}

// TestSharedBase: P10.1 and rule 6, what is done to the base later counts at once, and all that know it share it.
func TestSharedBase(t *testing.T) {
	s, b := seal.New(false, api.Key{1}), base.New()
	one, two := kdc.New(s, b, "LAND"), kdc.New(s, b, "LAND")
	m := asAsking().m
	for _, k := range []*kdc.Kdc{one, two} {
		_, err := k.Handle(m, 1000)
		isFault(t, err, "as", api.ErrClient)
	}
	for _, e := range land() {
		b.Put(e)
	}
	first, err1 := one.Handle(m, 1000)
	second, err2 := two.Handle(m, 1000)
	if err1 != nil || err2 != nil || probe.SameKrb(first, second) || s.Drawn() != 2 {
		t.Errorf("%+v, %v; %+v, %v", first, err1, second, err2)
	}
	b.Drop("ann@LAND")
	_, err := one.Handle(m, 1000)
	isFault(t, err, "as", api.ErrClient)
}

// open gives the grant in an answer's box.
func open(t *testing.T, s *seal.Sealer, key api.Key, m api.Krb) api.Grant {
	t.Helper()
	plain, e1 := s.Open(key, api.UseGrant, m.Sealed)
	g, e2 := ticket.ReadGrant(plain)
	if e1 != api.OK || e2 != api.OK {
		t.Fatalf("%+v: %v, %v", m, e1, e2)
	}
	return g
}

// TestWhole: P10.3 and P10.4, a client gets the first ticket, and by it another one; both of its sides have the same key.
func TestWhole(t *testing.T) {
	for _, symbols := range kinds {
		s, b := seal.New(symbols, api.Key{7}), base.New()
		for _, e := range land() {
			b.Put(e)
		}
		k := kdc.New(s, b, "LAND")
		rep := k.Answer(api.Krb{Kind: api.KrbAsReq, Client: "ann@LAND", Server: k.Main(), Nonce: 1, End: 5000, Flags: 1}, 1000)
		g := open(t, s, annKey, rep)
		if want := (api.Grant{Server: main, Key: g.Key, Nonce: 1, Start: 1000, End: 1700, Flags: 1}); g != want {
			t.Errorf("%+v", g)
		}
		auth, _ := ticket.WriteAuth(api.Auth{Client: "ann@LAND", Time: 1003})
		box := sealed(t, s, g.Key, api.UseAuth, auth)
		rep = k.Answer(api.Krb{Kind: api.KrbTgsReq, Server: "host/s1@LAND", Nonce: 2, End: 5000, Flags: 3, Ticket: rep.Ticket, Sealed: box}, 1005)
		g2 := open(t, s, g.Key, rep)
		if want := (api.Grant{Server: "host/s1@LAND", Key: g2.Key, Nonce: 2, Start: 1005, End: 1700, Flags: 3}); g2 != want || g2.Key == g.Key {
			t.Errorf("%+v", g2)
		}
		x, e := ticket.Open(s, hostKey, rep.Ticket)
		if want := (api.Ticket{Client: "ann@LAND", Server: "host/s1@LAND", Key: g2.Key, Start: 1005, End: 1700, Flags: 3}); e != api.OK || x != want {
			t.Errorf("%+v, %v", x, e)
		}
	}
}

// TestAnswerForm: P10.5, also a message that is none has an answer, with its Nonce.
func TestAnswerForm(t *testing.T) {
	k, _ := asAsking().pose(t, seal.New(true, api.Key{}))
	for _, nonce := range []uint64{0, 5, math.MaxUint64} {
		for _, kind := range []int{-1, 0, 1, 2, 3, 7, 8} {
			m := api.Krb{Kind: kind, Nonce: nonce, Client: "no name", Code: 5000, Ticket: make([]byte, 4000)}
			if got := k.Answer(m, 1000); !probe.SameKrb(got, api.Krb{Kind: 7, Nonce: nonce, Code: 21}) {
				t.Errorf("%d, %d: %+v", kind, nonce, got)
			}
		}
	}
}

// TestArgumentsStay: P10.6, the boxes that are handed in aren't changed, and may be written over behind the call; answers share nothing.
func TestArgumentsStay(t *testing.T) {
	for _, symbols := range kinds {
		for _, a := range []asking{asAsking(), tgsAsking()} {
			s, twin := seal.New(symbols, api.Key{3}), seal.New(symbols, api.Key{3})
			k, m := a.pose(t, s)
			other, _ := a.pose(t, twin)
			want, _ := other.Handle(m, a.now)
			first, second := string(m.Ticket), string(m.Sealed)
			var room, room2 []byte
			m.Ticket, room = probe.Roomy(first)
			m.Sealed, room2 = probe.Roomy(second)
			if a.m.Kind == api.KrbAsReq {
				m.Ticket, m.Sealed = m.Ticket[:0], m.Sealed[:0]
			}
			got, err := k.Handle(m, a.now)
			if err != nil || string(room) != first+probe.Spare || string(room2) != second+probe.Spare {
				t.Errorf("%v, %q, %q", err, room, room2)
			}
			probe.Spoil(m.Ticket)
			probe.Spoil(m.Sealed)
			if !probe.SameKrb(got, want) {
				t.Errorf("%+v, not %+v", got, want)
			}
			probe.Spoil(got.Ticket)
			if !bytes.Equal(got.Sealed, want.Sealed) {
				t.Errorf("one answer's boxes share memory: %x", got.Sealed)
			}
			probe.Spoil(got.Sealed)
			if grant := open(t, s, map[int]api.Key{1: annKey, 2: tgtKey}[a.m.Kind], want); grant.Nonce != a.m.Nonce {
				t.Errorf("%+v", grant)
			}
		}
	}
}

// answers gives all that is answered to messages made of a text.
func answers(text string) []any {
	s, b := seal.New(len(text)%2 == 0, api.Key{2}), base.New()
	b.Put(api.Entry{Name: "krbtgt/" + text + "@" + text, Key: mainKey, Life: int64(len(text)), Flags: 1})
	b.Put(api.Entry{Name: text, Life: last, Off: true})
	b.Put(api.Entry{Name: text + "@" + text, Life: last, Flags: 1})
	k := kdc.New(s, b, text)
	out := []any{k.Main()}
	for kind := range 9 {
		for _, now := range []int64{0, greatest, math.MinInt64, math.MaxInt64} {
			m := api.Krb{Kind: kind, Server: k.Main(), Nonce: uint64(now), End: now, Flags: len(text), Ticket: []byte(text), Sealed: []byte(text)}
			if kind == 1 {
				m.Ticket, m.Sealed, m.Client = nil, nil, text+"@"+text
			}
			got, err := k.Handle(m, now)
			out = append(out, got, err, k.Answer(m, now))
		}
	}
	return append(out, s.Drawn(), s.Terms(), b.List())
}

// TestAnyArguments: P1 and P2, each call ends, without a panic, and answers the same in a second run.
func TestAnyArguments(t *testing.T) {
	if s, parts := probe.Parting(probe.Texts("a@/\x00\xff", 4), answers, reflect.DeepEqual); parts {
		t.Errorf("%q: two runs part", s)
	}
	if s := fmt.Sprint(answers("LAND")); s != fmt.Sprint(answers("LAND")) {
		t.Error("LAND: two runs part")
	}
}

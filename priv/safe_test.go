package priv_test

import (
	"bytes"
	"crypto/sha256"
	"math"
	"reflect"
	"strings"
	"testing"

	"gangway/api"
	"gangway/priv"
	"gangway/probe"
	"gangway/seal"
)

const last = 1 << 40 // the greatest time

// digest gives the digest of data, by the library.
func digest(data string) string {
	sum := sha256.Sum256([]byte(data))
	return string(sum[:])
}

// told gives data with a box, as Safe tells them.
func told(data string, box []byte) []byte {
	return []byte(probe.Field(51, data) + probe.Field(52, string(box)))
}

// checks looks whether Check gives these data.
func (b *bench) checks(safe []byte, want string) {
	b.Helper()
	if got, e := priv.Check(b.s, key, safe); e != api.OK || string(got) != want {
		b.Errorf("%.80q: %.80q, %v", safe, got, e)
	}
}

// doubts looks whether Check answers an error, with nothing beside it.
func (b *bench) doubts(safe []byte, want api.Errno) {
	b.Helper()
	if got, e := priv.Check(b.s, key, safe); e != want || len(got) != 0 {
		b.Errorf("%.80q: %.80q, %v, not %v", safe, got, e, want)
	}
}

// TestSafe: P14.5, data are told as they are, with a box of their digest.
func TestSafe(t *testing.T) {
	onBoth(t, func(b *bench) {
		for i, n := range []int{0, 1, 32, 55, 56, 64, 1000, 1001, 1999, 2000} {
			data := string(probe.Bytes(uint64(i), n))
			got, e := priv.Safe(b.s, key, []byte(data))
			want := told(data, b.must(key, 7, digest(data)))
			if e != api.OK || !bytes.Equal(got, want) {
				b.Errorf("%d bytes: %.80q, %v, not %.80q", n, got, e, want)
			}
			b.checks(got, data)
			b.checks(got, data) // as often as it is looked at
		}
		for _, n := range []int{2001, 2002, 4000, 65535, 65536, 70000} {
			if got, e := priv.Safe(b.s, key, make([]byte, n)); e != api.ErrLong || len(got) != 0 {
				b.Errorf("%d bytes: %.80q, %v", n, got, e)
			}
		}
	})
}

// TestCheckForm: P14.5, what isn't just two such fields, told ahead of what is wrong with the box.
func TestCheckForm(t *testing.T) {
	f := probe.Field
	onBoth(t, func(b *bench) {
		for _, box := range []string{string(b.given(key, 7, digest("data"))), "no box", ""} {
			right := f(51, "data") + f(52, box)
			for _, wrong := range []string{
				"", "data", "\x00", f(51, "data"), f(52, box), f(52, box) + f(51, "data"), right + f(53, ""), f(50, "") + right, right + "\x00", right + "\x33", right[1:],
				f(51, "data") + f(51, box), f(52, "data") + f(52, box), f(53, "data") + f(52, box), f(51, "data") + f(53, box), right + right, f(51, right),
				f(51, "data") + f(51, "data") + f(52, box), f(1, "data") + f(2, box), "\x33\x00\x05data" + f(52, box), f(51, "data") + "\x34\xff\xff" + box,
			} {
				b.doubts([]byte(wrong), api.ErrForm)
			}
			for n := range len(right) {
				b.doubts([]byte(right[:n]), api.ErrForm)
			}
		}
	})
}

// TestCheckSeal: P14.5, boxes that aren't of the digest of just these data, under the key, for the use.
func TestCheckSeal(t *testing.T) {
	onBoth(t, func(b *bench) {
		sum := digest("data")
		for _, in := range []string{"", "data", sum[:31], sum[:16], sum[1:], sum + "\x00", sum + sum, digest("other"), digest(""), digest("Data"), strings.Repeat("\x00", 32), digest(sum)} {
			b.doubts(told("data", b.given(key, 7, in)), api.ErrSeal)
		}
		for use := range 10 {
			if use != 7 {
				b.doubts(told("data", b.given(key, use, sum)), api.ErrSeal)
			}
		}
		b.doubts(told("data", b.given(other, 7, sum)), api.ErrSeal)
		b.doubts(told("data", b.given(api.Key{}, 7, sum)), api.ErrSeal)
		strange := b.given(api.Key{}, 7, sum) // by symbols no other number may be one that this key opens
		for _, box := range spoilt(strange) {
			b.doubts(told("data", box), api.ErrSeal)
		}
		right := b.given(key, 7, sum)
		for _, data := range []string{"", "dat", "datas", "Data", "data\x00", "\x00data", strings.Repeat("x", 2000), sum} {
			b.doubts(told(data, right), api.ErrSeal)
		}
		b.checks(told("data", right), "data")
	})
}

// cred gives an ordinary ticket.
func cred() api.Cred {
	return api.Cred{
		Client: "ann@LAND", Ticket: []byte("a box for s1"),
		Grant: api.Grant{Server: "host/s1@LAND", Key: other, Nonce: 4, Start: 900, End: 1500, Flags: 3},
	}
}

// packed gives the bytes of a ticket that is forwarded, of any fields.
func packed(c api.Cred) string {
	return probe.Field(61, c.Client) + probe.Field(62, string(c.Ticket)) + probe.Field(63, granted(c.Grant))
}

// granted gives the bytes of a grant, of any fields.
func granted(g api.Grant) string {
	return probe.Field(21, g.Server) + probe.Field(22, string(g.Key[:])) + probe.Field(23, probe.Num(g.Nonce)) +
		probe.Field(24, probe.Num(uint64(g.Start))) + probe.Field(25, probe.Num(uint64(g.End))) + probe.Field(26, probe.Num(uint64(g.Flags)))
}

// rights gives tickets that may be forwarded, at the edges of it.
func rights() []api.Cred {
	all := []api.Cred{cred(), {Client: "a@R", Grant: api.Grant{Server: "a@R"}}}
	add := func(change func(*api.Cred)) {
		c := cred()
		change(&c)
		all = append(all, c)
	}
	for _, n := range probe.Names() {
		add(func(c *api.Cred) { c.Client = n })
		add(func(c *api.Cred) { c.Grant.Server = n })
	}
	for _, n := range []int{0, 1, 255, 256, 999, 1000} {
		add(func(c *api.Cred) { c.Ticket = probe.Bytes(uint64(n), n) })
	}
	for _, x := range [][2]int64{{0, 0}, {0, last}, {last, last}, {255, 256}} {
		add(func(c *api.Cred) { c.Grant.Start, c.Grant.End = x[0], x[1] })
	}
	for flags := range 4 {
		add(func(c *api.Cred) { c.Grant.Flags, c.Grant.Nonce, c.Grant.Key = flags, uint64(flags)<<62, api.Key{} })
	}
	add(func(c *api.Cred) { // the longest of all
		c.Client, c.Ticket = probe.Longest, probe.Bytes(5, 1000)
		c.Grant = api.Grant{Server: probe.Longest, Nonce: math.MaxUint64, Start: last, End: last, Flags: 3}
	})
	return all
}

// wrongs gives tickets that may not be forwarded; the last ones don't fit into what is sealed at once.
func wrongs() []api.Cred {
	var all []api.Cred
	add := func(change func(*api.Cred)) {
		c := cred()
		change(&c)
		all = append(all, c)
	}
	for _, x := range [][2]int64{{-1, 0}, {1, 0}, {last, last - 1}, {0, last + 1}, {last + 1, last + 1}, {math.MinInt64, math.MaxInt64}, {math.MaxInt64, math.MinInt64}} {
		add(func(c *api.Cred) { c.Grant.Start, c.Grant.End = x[0], x[1] })
	}
	for _, flags := range []int{-1, 4, 7, 256, math.MaxInt, math.MinInt} {
		add(func(c *api.Cred) { c.Grant.Flags = flags })
	}
	add(func(c *api.Cred) { c.Ticket = make([]byte, 1001) })
	add(func(c *api.Cred) { *c = api.Cred{} })
	add(func(c *api.Cred) { c.Grant = api.Grant{} })
	for _, n := range probe.NotNames() {
		add(func(c *api.Cred) { c.Client = n })
		add(func(c *api.Cred) { c.Grant.Server = n })
	}
	add(func(c *api.Cred) { c.Ticket = make([]byte, 2000) })
	add(func(c *api.Cred) { c.Ticket = make([]byte, 3000) })
	add(func(c *api.Cred) { c.Ticket = make([]byte, 70000) })
	return all
}

// opens looks whether Forwarded gives this ticket.
func (b *bench) opens(box []byte, want api.Cred) {
	b.Helper()
	if got, e := priv.Forwarded(b.s, key, box); e != api.OK || !probe.SameCred(got, want) {
		b.Errorf("%x: %+v, %v, not %+v", box, got, e, want)
	}
}

// opensNot looks whether Forwarded answers an error, with nothing beside it.
func (b *bench) opensNot(box []byte, want api.Errno) {
	b.Helper()
	if got, e := priv.Forwarded(b.s, key, box); e != want || !reflect.DeepEqual(got, api.Cred{}) {
		b.Errorf("%.80x: %+v, %v, not %v", box, got, e, want)
	}
}

// TestForward: P14.6, what may be forwarded is sealed, and opened again as it was.
func TestForward(t *testing.T) {
	onBoth(t, func(b *bench) {
		for _, c := range rights() {
			box, e := priv.Forward(b.s, key, c)
			if want := b.must(key, 8, packed(c)); e != api.OK || !bytes.Equal(box, want) {
				b.Errorf("%+v: %x, %v, not %x", c, box, e, want)
			}
			b.opens(box, c)
			b.opens(box, c)
		}
	})
}

// TestForwardErrors: P14.6, what may not be forwarded; nothing is sealed for it.
func TestForwardErrors(t *testing.T) {
	onBoth(t, func(b *bench) {
		for _, c := range wrongs() {
			if box, e := priv.Forward(b.s, key, c); e != api.ErrArg || len(box) != 0 {
				b.Errorf("%.200q, %+v: %x, %v", c.Client, c.Grant, box, e)
			}
		}
	})
}

// TestForwardedSeal: P14.6, boxes that are none, or were sealed under another key, or for another use; told ahead of what is in them.
func TestForwardedSeal(t *testing.T) {
	onBoth(t, func(b *bench) {
		for _, plain := range []string{packed(cred()), "", packed(api.Cred{})} {
			for use := range 10 {
				if use != 8 {
					b.opensNot(b.given(key, use, plain), api.ErrSeal)
				}
			}
			b.opensNot(b.given(other, 8, plain), api.ErrSeal)
			box := b.given(api.Key{}, 8, plain) // by symbols no other number may be one that this key opens
			for _, wrong := range spoilt(box) {
				b.opensNot(wrong, api.ErrSeal)
			}
			b.opensNot([]byte(plain), api.ErrSeal)
		}
	})
}

// TestForwardedForm: P14.6, boxes of something else than a ticket that may be forwarded.
func TestForwardedForm(t *testing.T) {
	f, c := probe.Field, cred()
	client, box, grant := f(61, c.Client), f(62, string(c.Ticket)), f(63, granted(c.Grant))
	wrong := []string{
		"", "x", "\x00", client, client + box, client + grant, box + grant, box + client + grant, client + grant + box, client + box + grant + f(64, ""),
		f(60, "") + client + box + grant, client + client + box + grant, client + box + grant + "\x00", (client + box + grant)[1:],
		f(62, c.Client) + box + grant, client + f(61, "t") + grant, client + box + f(64, granted(c.Grant)), client + box + f(63, ""), client + box + f(63, "x"),
		client + box + f(63, granted(c.Grant)+"\x00"), client + box + f(63, granted(c.Grant)+f(27, "")), client + box + f(63, granted(c.Grant)[1:]),
		client + box + granted(c.Grant), granted(c.Grant), content(0, 1, 0, "x"), strings.Repeat("x", 2000), f(51, "data") + f(52, ""),
		client + box + f(63, strings.Replace(granted(c.Grant), f(23, "\x04"), f(23, "\x00\x04"), 1)),
		client + box + f(63, strings.Replace(granted(c.Grant), f(26, "\x03"), f(26, "\x04"), 1)),
	}
	for _, c := range wrongs() {
		if plain := packed(c); len(plain) <= 2000 {
			wrong = append(wrong, plain)
		}
	}
	onBoth(t, func(b *bench) {
		for _, plain := range wrong {
			b.opensNot(b.given(key, 8, plain), api.ErrForm)
		}
		whole := packed(cred())
		for n := range len(whole) {
			b.opensNot(b.given(key, 8, whole[:n]), api.ErrForm)
		}
		b.opens(b.given(key, 8, whole), cred())
	})
}

// TestSafeKeepsNothing: P14.7, of data that are told with a sum.
func TestSafeKeepsNothing(t *testing.T) {
	onBoth(t, func(b *bench) {
		data, all := probe.Roomy("data")
		safe, e := priv.Safe(b.s, key, data)
		want := string(told("data", b.must(key, 7, digest("data"))))
		if e != api.OK || string(all) != "data"+probe.Spare {
			b.Errorf("%v, %q", e, all)
		}
		probe.Spoil(data)
		if string(safe) != want {
			b.Errorf("%q, not %q", safe, want)
		}
		probe.Spoil(safe)
		came, room := probe.Roomy(want)
		got, e := priv.Check(b.s, key, came)
		if e != api.OK || string(room) != want+probe.Spare {
			b.Errorf("%v, %q", e, room)
		}
		probe.Spoil(came)
		if string(got) != "data" {
			b.Errorf("%q", got)
		}
		probe.Spoil(got)
		b.checks([]byte(want), "data")
	})
}

// TestForwardKeepsNothing: P14.7, of tickets that are forwarded.
func TestForwardKeepsNothing(t *testing.T) {
	onBoth(t, func(b *bench) {
		c, text := cred(), string(cred().Ticket)
		c.Client, c.Grant.Server = strings.Clone(c.Client), strings.Clone(c.Grant.Server)
		var all []byte
		c.Ticket, all = probe.Roomy(text)
		box, e := priv.Forward(b.s, key, c)
		want := string(b.must(key, 8, packed(cred())))
		if e != api.OK || string(all) != text+probe.Spare || !probe.SameCred(c, cred()) {
			b.Errorf("%v, %q, %+v", e, all, c)
		}
		spoil(c.Client, c.Grant.Server)
		probe.Spoil(c.Ticket)
		if string(box) != want {
			b.Errorf("%x, not %x", box, want)
		}
		probe.Spoil(box)
		came, room := probe.Roomy(want)
		got, e := priv.Forwarded(b.s, key, came)
		if e != api.OK || string(room) != want+probe.Spare {
			b.Errorf("%v, %q", e, room)
		}
		probe.Spoil(came)
		if !probe.SameCred(got, cred()) {
			b.Errorf("%+v", got)
		}
		spoil(got.Client, got.Grant.Server)
		probe.Spoil(got.Ticket)
		b.opens([]byte(want), cred())
	})
}

// safeAnswers gives all that is answered to what is made of a text.
func safeAnswers(text string) []any {
	s, data := seal.New(len(text)%2 == 0, api.Key{3}), []byte(text)
	one, e1 := priv.Safe(s, key, data)
	two, e2 := priv.Check(s, key, data)
	box, _ := s.Seal(key, api.UseSafe, data)
	three, e3 := priv.Check(s, key, told(text, box))
	four, e4 := priv.Forward(s, key, api.Cred{Client: text, Ticket: data, Grant: cred().Grant})
	five, e5 := priv.Forwarded(s, key, data)
	box, _ = s.Seal(key, api.UseCred, data)
	six, e6 := priv.Forwarded(s, key, box)
	return []any{one, e1, two, e2, three, e3, four, e4, five, e5, six, e6, s.Drawn(), s.Terms()}
}

// TestAnySafe: P1 and P2, each call ends, without a panic, and answers the same in a second run.
func TestAnySafe(t *testing.T) {
	if s, parts := probe.Parting(probe.Texts("\x33\x34\x3d\x00a@", 4), safeAnswers, reflect.DeepEqual); parts {
		t.Errorf("%q: two runs part", s)
	}
}

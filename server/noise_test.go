package server_test

import (
	"slices"
	"testing"

	"gangway/api"
	"gangway/krb"
	"gangway/probe"
)

// outcome is what became of sessions, and of the host that they came to.
type outcome struct {
	got   [][4]string
	did   []api.Served
	log   []api.Ran
	nodes []api.Node
}

// scripts are what the clients of a run with noise say, each on ChanIn up to its end.
var scripts = []struct{ client, text string }{
	{"ann@LAND", "login ann -\nwhoami\rput /users/ann/f of  ann\rcat /users/ann/f\rls /users/ann\rwhat\rexit 300\r\n\x15half"},
	{"bob@LAND", "copy bob /users/bob/to modes\nD75 0 d\nC70 5 f\n01\n34\x00D11 0 e\nE\nC64 0 g\n\x00E\n"},
	{"ann@LAND", "run ann ls /users\n"},
	{"bob@LAND", "run ann rm /users/ann/f\n"},
	{"bob@LAND", "login bob -\nput /users/bob/x 1\rexit 7\rrm /users/bob/x\r"},
}

// runs lets clients say what they say, piece by piece in turn, while between any two messages noise comes.
func runs(t *testing.T, s *site, seed uint64, noise func(g *guest, own []byte)) outcome {
	t.Helper()
	d := probe.NewDice(seed)
	var all []*guest
	texts := make([]string, len(scripts))
	for i, c := range scripts {
		all = append(all, s.comes(t, c.client))
		texts[i] = c.text
	}
	guests := slices.Clone(all)
	for left := len(scripts); left > 0; {
		i := d.Roll(len(scripts))
		g, n := all[i], min(d.Roll(30), len(texts[i]))
		if g == nil {
			continue
		}
		must(t, 0, g.mux.Write(api.ChanIn, []byte(texts[i][:n])))
		if texts[i] = texts[i][n:]; texts[i] == "" && n > 0 {
			must(t, 0, g.mux.Close(api.ChanIn))
			left--
		}
		messages := g.says(t)
		for len(messages) > 0 {
			noise(g, messages[0])
			for _, mail := range s.takes(t, messages[0], 99) {
				noise(g, mail.Data)
				messages = append(messages, g.hears(t, mail.Data)...)
			}
			messages = messages[1:]
		}
		if texts[i] == "" {
			all[i] = nil
		}
	}
	var o outcome
	for _, g := range guests {
		o.got = append(o.got, g.got)
	}
	for _, d := range s.Served() {
		d.Key = api.Key{}
		o.did = append(o.did, d)
	}
	o.log, o.nodes = s.Log(), s.files.Nodes()
	return o
}

// TestNoise: P24.6, what comes that isn't a session's own, in order, and sealed by who has its key, changes nothing of what it does.
func TestNoise(t *testing.T) {
	for seed := range uint64(200) {
		want := runs(t, newSite(t, true), seed, func(*guest, []byte) {})
		s := newSite(t, seed%2 == 0)
		d := probe.NewDice(seed + 1000)
		var seen [][]byte
		got := runs(t, s, seed, func(g *guest, own []byte) {
			for _, data := range append(seen, own[1:], own[:len(own)-1]) {
				if d.Roll(20) == 0 {
					s.Take(noisy(t, d, data), d.Roll(9), s.now)
				}
			}
			s.Take([]byte(d.Text(d.Roll(60))), d.Roll(9), s.now)
			if g.from == 5 && len(seen) < 60 {
				seen = append(seen, own, g.asked)
			}
		})
		if !slices.Equal(got.got, want.got) || !slices.Equal(got.log, want.log) || !slices.EqualFunc(got.did, want.did, sameServed) || !probe.SameNodes(got.nodes, want.nodes) {
			t.Fatalf("%d: %+v, not %+v", seed, got, want)
		}
		for i, exit := range []string{"2", "0", "0", "error 90", "7"} {
			if want.got[i][api.ChanExit] != exit {
				t.Fatalf("%d: %q, not %q", i, want.got[i], exit)
			}
		}
	}
}

// noisy gives what an enemy makes of a message that it has seen.
func noisy(t *testing.T, d *probe.Dice, data []byte) []byte {
	t.Helper()
	m, e := krb.Read(data)
	if e != api.OK {
		return data
	}
	switch d.Roll(5) {
	case 0:
		return data
	case 1:
		return []byte(is(t, data))
	case 2:
		m.Nonce = uint64(d.Roll(8))
	case 3:
		m.Kind = api.KrbData
		m.Ticket = nil
	case 4:
		m.Sealed = append(slices.Clone(m.Sealed), 0)
	}
	data, e = krb.Write(m)
	return must(t, data, e)
}

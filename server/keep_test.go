package server_test

import (
	"reflect"
	"slices"
	"strings"
	"testing"

	"gangway/api"
	"gangway/krb"
	"gangway/priv"
	"gangway/probe"
	"gangway/seal"
	"gangway/server"
)

// spoiling is a server of which all that is handed in, and all that is answered, is written over behind each call, with its spare room.
type spoiling struct {
	t *testing.T
	host
}

func (x spoiling) Take(data []byte, from int, now int64) ([]api.Mail, error) {
	mine, all := probe.Roomy(string(data))
	list, err := x.host.Take(mine, from, now)
	if string(all) != string(data)+probe.Spare {
		x.t.Fatalf("%q has become %q", data, all)
	}
	probe.Spoil(mine)
	return probe.SpoiledMails(list), err
}

func (x spoiling) Tick(now int64) []api.Mail { return probe.SpoiledMails(x.host.Tick(now)) }

func (x spoiling) Served() []api.Served {
	list, other := x.host.Served(), x.host.Served()
	kept := probe.Spoiled(list, probe.CopiedServed, eraser.Served)
	if !slices.EqualFunc(kept, other, sameServed) {
		x.t.Errorf("%+v has become %+v", kept, other)
	}
	return kept
}

func (x spoiling) Log() []api.Ran {
	return probe.Spoiled(x.host.Log(), probe.CopiedRan, eraser.Ran)
}

// TestNothingIsShared: P24.7, whoever writes over what was handed in, or answered, a server goes on as one that was left alone, and its files are the same.
func TestNothingIsShared(t *testing.T) {
	for seed := range uint64(60) {
		symbols := seed%2 == 0
		a, b := newSite(t, symbols), newSite(t, symbols)
		a.host = spoiling{t, a.host}
		one, two := play(t, a, seed, 200), play(t, b, seed, 200)
		if other := probe.Differ(one.told, two.told); other != "" {
			t.Fatalf("%d: %s", seed, other)
		}
	}
}

// TestNewKeepsNothing: P24.7, the name and the rules that New is given may be written over behind it.
func TestNewKeepsNothing(t *testing.T) {
	own, rules := entry(), strings.Clone("RULE 1 carl carl ann\nDEFAULT\n")
	own.Name = strings.Clone(own.Name)
	s := newSite(t, true)
	x, e := server.New(s.sealer, own, s.files, rules, begun)
	s.host = must(t, x, e)
	eraser.Texts(own.Name, rules)
	for _, client := range []string{"ann@LAND", "carl@LAND"} {
		g := s.comes(t, client)
		g.types(t, "run ann whoami\n")
		g.puts(t, "ann\n", "", "0")
	}
}

// TestRunsAlike: P2, two runs of the same calls give the same answers.
func TestRunsAlike(t *testing.T) {
	for seed := range uint64(20) {
		one, two := play(t, newSite(t, true), seed, 200), play(t, newSite(t, true), seed, 200)
		if other := probe.Differ(one.told, two.told); other != "" {
			t.Fatalf("%d: %s", seed, other)
		}
	}
}

// TestTwoServers: rule 6, two servers over one tree, of one sealer, share these, and nothing else.
func TestTwoServers(t *testing.T) {
	s := newSite(t, false)
	x, e := server.New(s.sealer, s.own, s.files, "DEFAULT\n", begun)
	other := &site{host: must(t, x, e), sealer: s.sealer, own: s.own, files: s.files, now: begun}
	g := s.comes(t, "ann@LAND")
	g.types(t, "run ann put /users/ann/f data\n")
	g.puts(t, "", "", "0")
	if other.Open() != 0 || len(other.Served()) != 0 || len(other.Log()) != 0 || len(other.Tick(begun)) != 0 {
		t.Errorf("%+v, %+v", other.Served(), other.Log())
	}
	again := one(t, other.takes(t, g.asked, 5), 5) // it came to the first one only
	if m, e := krb.Read(again); e != api.OK || m.Kind != api.KrbApRep {
		t.Errorf("%+v, %v", m, e)
	}
	other.Restart(begun)
	h := s.comes(t, "ann@LAND")
	h.types(t, "run ann cat /users/ann/f\n")
	h.puts(t, "data", "", "0")
}

// TestAnyArguments: P1 and P2, each call ends, without a panic, and answers the same in a second run, whatever comes: as data, sealed for a session, or over its channels, at any time.
func TestAnyArguments(t *testing.T) {
	answers := func(text string) []any {
		var out []any
		note := func(list []api.Mail, err error) { out = append(out, list, err) }
		if x, e := server.New(seal.New(true, api.Key{}), api.Entry{Name: text}, planted(), text, 0); e == api.OK {
			note(x.Take([]byte(text), -1<<63, -1<<63))
		} else {
			out = append(out, e)
		}
		s := newSite(t, true)
		note(s.Take([]byte(text), 1<<63-1, 1<<63-1))
		note(s.Take([]byte("\xff"+text), 0, begun))
		for _, now := range []int64{-1 << 63, -1, 0, begun, 1<<63 - 1} {
			g := s.comes(t, "ann@LAND")
			box, e := s.sealer.Seal(g.key, api.UsePriv, []byte(text))
			note(s.Take(g.data(t, must(t, box, e)), 0, now))
			note(s.Take(g.data(t, []byte(text)), 0, now))
			pipe := priv.New(s.sealer, g.key, 0)
			pipe.Send([]byte(text))
			note(s.Take(g.data(t, pipe.Boxes()[0]), 0, now))
			g = s.comes(t, "bob@LAND")
			g.mux.Write(api.ChanIn, []byte(text+" bob "+text+"\n"+text))
			for _, data := range g.says(t) {
				note(s.Take(data, 0, now))
			}
			out = append(out, s.Tick(now), s.Served(), s.Log(), s.Open())
			s.Restart(-1 << 63)
			s.now += 20
		}
		return out
	}
	if text, parts := probe.Parting(probe.Texts("\x00\x02\x04\x1f\x25\xffr", 4), answers, reflect.DeepEqual); parts {
		t.Errorf("%q: two runs part", text)
	}
}

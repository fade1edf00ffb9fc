package client_test

import (
	"reflect"
	"slices"
	"strings"
	"testing"

	"gangway/api"
	"gangway/client"
	"gangway/krb"
	"gangway/probe"
	"gangway/seal"
	"gangway/tree"
)

// spoiling is a client of which all that is handed in, and all that is answered, is written over behind each call, with its spare room.
type spoiling struct {
	t *testing.T
	host
}

func (x spoiling) Want(w api.Want, to int) api.Errno {
	mine := probe.CopiedWant(w)
	mine.Lines = append(mine.Lines, "spare")
	mine.Lines = mine.Lines[:len(w.Lines)]
	e := x.host.Want(mine, to)
	if !sameWant(mine, w) || mine.Lines[:len(w.Lines)+1][len(w.Lines)] != "spare" {
		x.t.Fatalf("%+v has become %+v", w, mine)
	}
	eraser.Want(mine)
	return e
}

func (x spoiling) Tick(now int64) []api.Mail { return probe.SpoiledMails(x.host.Tick(now)) }

func (x spoiling) Take(data []byte, now int64) ([]api.Mail, error) {
	mine, all := probe.Roomy(string(data))
	list, err := x.host.Take(mine, now)
	if string(all) != string(data)+probe.Spare {
		x.t.Fatalf("%q has become %q", data, all)
	}
	probe.Spoil(mine)
	return probe.SpoiledMails(list), err
}

func (x spoiling) Got() []api.Got {
	list, other := x.host.Got(), x.host.Got()
	kept := probe.Spoiled(list, probe.CopiedGot, eraser.Got)
	if !slices.EqualFunc(kept, other, sameGot) {
		x.t.Errorf("%+v has become %+v", kept, other)
	}
	return kept
}

// TestNothingIsShared: P25.7, whoever writes over what was handed in, or answered, a client goes on as one that was left alone.
func TestNothingIsShared(t *testing.T) {
	for seed := range uint64(60) {
		a, b := newPlaySite(seed%2 == 0), newPlaySite(seed%2 == 0)
		a.host = spoiling{t, a.host}
		one, two := play(t, a, seed, 400), play(t, b, seed, 400)
		if other := probe.Differ(one.told, two.told); other != "" {
			t.Fatalf("%d: %s", seed, other)
		}
		if !probe.SameNodes(one.files.Nodes(), newPlaySite(true).files.Nodes()) {
			t.Errorf("%d: the client's files have changed", seed)
		}
	}
}

// TestNewKeepsNothing: P25.7, the names that New is given may be written over behind it.
func TestNewKeepsNothing(t *testing.T) {
	s, own, name := newSite(true), ann(), strings.Clone(main)
	own.Name = strings.Clone(own.Name)
	s.host = client.New(s.sealer, own, name, s.files, number)
	eraser.Texts(own.Name, name)
	f := s.meets(t, run(blue, "ls"))
	f.goesOn(t, f.hears(t, s.Tick(s.now)))
	if f.said != "run ann ls\n" || f.session.Client != "ann@LAND" {
		t.Errorf("%q, %+v", f.said, f.session)
	}
}

// TestNewKeeps: P25.7, of the files those are copied that the tree has when they are wanted, not when the client was new.
func TestNewKeeps(t *testing.T) {
	s := newSite(true)
	s.files.Write(api.Root, "/new", []byte("later"), 48)
	s.files.Remove(api.Root, "/f")
	w := api.Want{Service: api.SvcCopy, Server: blue, Account: "ann", Path: "/f", To: "/to"}
	if e := s.Want(w, place); e != api.ErrNotFound {
		t.Error(e)
	}
	w.Path = "/new"
	f := s.meets(t, w)
	f.goesOn(t, f.hears(t, s.Tick(s.now)))
	if f.said != "copy ann /to plain\nC60 5 new\nlater\x00" {
		t.Errorf("%q", f.said)
	}
}

// TestRunsAlike: P2, two runs of the same calls give the same answers.
func TestRunsAlike(t *testing.T) {
	for seed := range uint64(20) {
		one, two := play(t, newPlaySite(true), seed, 300), play(t, newPlaySite(true), seed, 300)
		if other := probe.Differ(one.told, two.told); other != "" {
			t.Fatalf("%d: %s", seed, other)
		}
	}
}

// TestTwoClients: rule 6, two clients of one sealer and one tree share these, and nothing else: neither tickets, nor Nonces, nor wants.
func TestTwoClients(t *testing.T) {
	s := newSite(false)
	other := &site{host: client.New(s.sealer, ann(), main, s.files, number), sealer: s.sealer, main: s.main, files: s.files, now: s.now}
	s.wants(t, run(blue, "ls"))
	if len(other.Got()) != 0 || len(other.Tick(begun)) != 0 {
		t.Errorf("%+v", other.Got())
	}
	other.wants(t, run(blue, "ls"))
	s.asks(t, api.KrbAsReq)
	if m := other.sends(t, api.KrbAsReq, 0); m.Nonce != before+1 {
		t.Errorf("%+v", m)
	}
	s.sends(t, api.KrbTgsReq, 0)
}

// TestAnyArguments: P1 and P2, each call ends, without a panic, and answers the same in a second run, whatever comes: as a name, as a want, as data, sealed for a session, or over its channels, at any time.
func TestAnyArguments(t *testing.T) {
	answers := func(text string) []any {
		var out []any
		note := func(list []api.Mail, err error) { out = append(out, list, err) }
		x := client.New(seal.New(true, api.Key{}), api.Entry{Name: text}, text, tree.New(), len(text))
		for service := range 6 {
			for _, w := range []api.Want{{Service: service, Server: text, Account: text, Lines: []string{text}, Path: text, To: text}, {Service: service, Server: blue, Account: "a", Lines: []string{text}, Path: "/" + text, To: "/" + text}} {
				out = append(out, x.Want(w, -1<<63), x.Tick(0), x.Tick(1<<39))
			}
		}
		note(x.Take([]byte(text), -1<<63))
		note(x.Take([]byte("\xff"+text), 1<<63-1))
		for _, now := range []int64{-1 << 63, -1, 0, begun, 1<<63 - 1} {
			s := newSite(true)
			f := s.meets(t, run(blue, "ls"))
			for _, kind := range []int{api.KrbRep, api.KrbApRep, api.KrbData} {
				for nonce := range uint64(4) {
					data, _ := krb.Write(api.Krb{Kind: kind, Nonce: before + nonce, Sealed: []byte(text)})
					note(s.Take(data, now))
				}
			}
			box, _ := s.sealer.Seal(f.session.Key, api.UsePriv, []byte(text))
			note(s.Take(write(t, f.Messages([][]byte{box})[0]), now))
			note(s.Take(write(t, f.seals(t, text)), now))
			f.Write(api.ChanExit, []byte(text))
			f.ends(t, api.ChanOut, api.ChanErr, api.ChanExit)
			out = append(out, s.Tick(now), s.Got())
		}
		return out
	}
	if text, parts := probe.Parting(probe.Texts("\x00\x02\x04\x1f\xff/r", 3), answers, reflect.DeepEqual); parts {
		t.Errorf("%q: two runs part", text)
	}
}

package world_test

import (
	"bytes"
	"fmt"
	"math"
	"reflect"
	"strings"
	"testing"

	"gangway/api"
	"gangway/probe"
	"gangway/world"
)

// spoiling is a world of which all that is handed in, and all that is answered, is written over behind each call, with its spare room.
type spoiling struct {
	t *testing.T
	lands
}

func (x spoiling) Do(e api.Event) error {
	mine, all := probe.Roomy(string(e.Data))
	w := probe.CopiedWant(e.Want)
	w.Lines = append(w.Lines, "spare")[:len(w.Lines)]
	handed := e
	handed.Data, handed.Want = mine, w
	err := x.lands.Do(handed)
	if string(all) != string(e.Data)+probe.Spare || w.Lines[:len(w.Lines)+1][len(w.Lines)] != "spare" || fmt.Sprint(w) != fmt.Sprint(e.Want) {
		x.t.Fatalf("%+v has become %+v", e, handed)
	}
	probe.Spoil(mine)
	eraser.Want(w)
	return err
}

func (x spoiling) Served(host int) []api.Served {
	return spoiled(x.t, func() []api.Served { return x.lands.Served(host) }, probe.CopiedServed, eraser.Served)
}

func (x spoiling) Log(host int) []api.Ran {
	return spoiled(x.t, func() []api.Ran { return x.lands.Log(host) }, probe.CopiedRan, eraser.Ran)
}

func (x spoiling) Nodes(host int) []api.Node {
	return spoiled(x.t, func() []api.Node { return x.lands.Nodes(host) }, probe.CopiedNode, eraser.Node)
}

func (x spoiling) Got(host int) []api.Got {
	return spoiled(x.t, func() []api.Got { return x.lands.Got(host) }, probe.CopiedGot, eraser.Got)
}

func (x spoiling) Seen() [][]byte { return spoiled(x.t, x.lands.Seen, bytes.Clone, probe.Spoil) }

func (x spoiling) Terms() []api.Term {
	return spoiled(x.t, x.lands.Terms, probe.CopiedTerm, func(m api.Term) { probe.Spoil(m.Plain) })
}

func (x spoiling) Entries() []api.Entry {
	return spoiled(x.t, x.lands.Entries, func(e api.Entry) api.Entry {
		e.Name = strings.Clone(e.Name)
		return e
	}, func(e api.Entry) { eraser.Texts(e.Name) })
}

func (x spoiling) Thefts() []api.Theft {
	return spoiled(x.t, x.lands.Thefts, func(m api.Theft) api.Theft {
		m.Name = strings.Clone(m.Name)
		return m
	}, func(m api.Theft) { eraser.Texts(m.Name) })
}

// spoiled gives a copy of what a call answers, and writes over that; what the call has answered a second time must be as it was.
func spoiled[A any](t *testing.T, call func() []A, copied func(A) A, spoil func(A)) []A {
	t.Helper()
	list, other := call(), call()
	kept := probe.Spoiled(list, copied, spoil)
	if fmt.Sprint(kept) != fmt.Sprint(other) {
		t.Errorf("%+v has become %+v", kept, other)
	}
	return kept
}

// TestNothingIsShared: P26.10, whoever writes over what was handed in, or answered, a world goes on as one that was left alone.
func TestNothingIsShared(t *testing.T) {
	for seed := range uint64(24) {
		symbols := seed%2 == 0
		one, two := newGame(t, symbols, 4000+seed, true), newGame(t, symbols, 4000+seed, true)
		one.lands = spoiling{t, one.lands}
		for _, g := range []*game{one, two} {
			g.thieves = 30
			g.tells(true)
			g.play(400)
			g.told = append(g.told, fmt.Sprint(g.Seen()), fmt.Sprint(g.Terms()))
		}
		if other := probe.Differ(one.told, two.told); other != "" {
			t.Fatalf("%d: %s", seed, other)
		}
	}
}

// TestRunsAlike: P2, two runs of the same calls give the same answers.
func TestRunsAlike(t *testing.T) {
	for seed := range uint64(10) {
		one, two := newGame(t, true, 5000+seed, true), newGame(t, true, 5000+seed, true)
		for _, g := range []*game{one, two} {
			g.play(400)
			g.told = append(g.told, g.state(true), fmt.Sprint(g.Seen()), fmt.Sprint(g.Terms()))
		}
		if other := probe.Differ(one.told, two.told); other != "" {
			t.Fatalf("%d: %s", seed, other)
		}
	}
}

// TestAnyArguments: P1 and P2, each call ends, without a panic, and answers the same in a second run, whatever it is given: as a number, as a want, as what is injected at any host, or forged, for any use.
func TestAnyArguments(t *testing.T) {
	numbers := []int{math.MinInt, -1, 0, 1, 2, 3, 4, math.MaxInt}
	answers := func(text string) []any {
		var out []any
		for _, n := range numbers {
			w, e := world.New(len(text)%2 == 0, n, len(text))
			if out = append(out, e); e == api.OK {
				out = append(out, w.Entries())
			}
		}
		w, _ := world.New(len(text)%2 == 0, 1, 2)
		for kind := -1; kind < 11; kind++ {
			for _, who := range numbers {
				for _, k := range numbers {
					for service := range 3 {
						want := api.Want{Service: service * 2, Server: "host/s1@LAND", Account: "ann", Lines: []string{text}, Path: "/" + text, To: text}
						out = append(out, w.Do(api.Event{Kind: kind, Who: who, K: k, Data: []byte(text), Want: want}))
					}
				}
			}
		}
		for w.Len() > 0 {
			out = append(out, w.Do(api.Event{Kind: api.EvDeliver}))
		}
		for _, n := range numbers {
			out = append(out, w.Now(n), w.Served(n), w.Log(n), w.Nodes(n), w.Got(n))
		}
		return append(out, w.Seen(), w.Terms(), w.Entries(), w.Thefts())
	}
	if text, parts := probe.Parting(probe.Texts("\x00S\x1f\xffr", 3), answers, reflect.DeepEqual); parts {
		t.Errorf("%q: two runs part", text)
	}
}

package world_test

import (
	"testing"

	"gangway/api"
	"gangway/probe"
)

// TestKindsAlike: P26.7, as long as nothing is injected or forged worlds of the two kinds answer the same errors, and tell the same, but for keys; whatever is wanted, lost, doubled, restarted, stolen.
func TestKindsAlike(t *testing.T) {
	done, lost := 0, 0
	for seed := range uint64(60) {
		one, two := newGame(t, true, 2000+seed, false), newGame(t, false, 2000+seed, false)
		for _, g := range []*game{one, two} {
			g.thieves = 10
			g.tells(false)
		}
		one.play(700)
		for _, e := range one.events {
			two.do(e)
		}
		one.told, two.told = append(one.told, one.state(false)), append(two.told, two.state(false))
		if other := probe.Differ(one.told, two.told); other != "" {
			t.Fatalf("%d: %s", seed, other)
		}
		for host := 1 + one.servers; host < one.hosts(); host++ {
			for n, g := range one.Got(host) {
				if g.Done && g.Failed == 0 {
					done++
				}
				if other := two.Got(host)[n]; g.Key != (api.Key{}) && g.Key == other.Key {
					t.Errorf("%+v, %+v", g, other)
				}
			}
		}
		lost += one.met["4 "]
	}
	if done < 200 || lost < 200 {
		t.Errorf("%d wants were done, %d mails lost", done, lost)
	}
}

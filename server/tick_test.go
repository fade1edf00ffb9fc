package server_test

import (
	"slices"
	"strings"
	"testing"

	"gangway/api"
	"gangway/probe"
)

// ticks lets time go on so often, and looks whether a session is still open behind that.
func (g *guest) ticks(t *testing.T, times int, open bool) {
	t.Helper()
	for range times {
		g.Tick(g.now)
	}
	list := g.Served()
	i := slices.IndexFunc(list, func(d api.Served) bool { return d.Key == g.key })
	if i < 0 || list[i].Over == open {
		t.Errorf("%d times: %+v", times, list)
	}
}

// TestTickSends: P24.4, what isn't acknowledged is sent again with each Tick, the sessions' in the order in which they came; each to its host.
func TestTickSends(t *testing.T) {
	for _, symbols := range kinds {
		s := newSite(t, symbols)
		var all []*guest
		var want [][]api.Mail
		for i, client := range []string{"ann@LAND", "bob@LAND", "carl@LAND"} {
			g := s.asks(t, client, begun+1000, uint64(i), 10+i)
			g.finish(t, one(t, s.takes(t, g.asked, g.from), g.from))
			all = append(all, g)
			want = append(want, nil)
		}
		for _, c := range []struct {
			who  int
			text string
		}{{2, "login carl -\nxy"}, {0, "login ann -\nab"}, {1, "login bob -\nm"}, {2, "\x7fz"}, {0, "c"}, {1, "n"}} {
			i := c.who
			must(t, 0, all[i].mux.Write(api.ChanIn, []byte(c.text)))
			list := s.takes(t, all[i].says(t)[0], 99)
			acknowledge(t, all[i], list[0].Data)
			want[i] = append(want[i], list[1:]...)
		}
		for range 3 {
			if got := s.Tick(begun); !probe.SameMails(got, slices.Concat(want...)) || len(want[0]) != 2 {
				t.Errorf("%+v, not %+v", got, want)
			}
		}
		mine := all[1].hears(t, want[1][0].Data)
		s.takes(t, mine[0], 99)
		if got := s.Tick(begun); !probe.SameMails(got, slices.Concat(want[0], want[1][1:], want[2])) {
			t.Errorf("%+v, not %+v", got, want)
		}
		all[0].goesOn(t, slices.Concat(all[0].hears(t, want[0][0].Data), all[0].hears(t, want[0][1].Data)))
		if got := s.Tick(begun); !probe.SameMails(got, slices.Concat(want[1][1:], want[2])) {
			t.Errorf("%+v, not %+v", got, want)
		}
	}
}

// TestLostMails: P24.4, whatever is lost comes again with the Ticks of both, and in order.
func TestLostMails(t *testing.T) {
	for seed := range uint64(100) {
		d := probe.NewDice(seed)
		s := newSite(t, d.Roll(2) == 0)
		g := s.comes(t, "ann@LAND")
		must(t, 0, g.mux.Write(api.ChanIn, []byte("login ann -\nwhoami\recho "+strings.Repeat("x", 60)+"\r")))
		must(t, 0, g.mux.Write(api.ChanIn, []byte(strings.Repeat("ls /users\r", 50)+"exit 9\r")))
		must(t, 0, g.mux.Close(api.ChanIn))
		for round := 0; s.Open() > 0; round++ {
			if round == 300 {
				t.Fatalf("%d: %q", seed, g.got)
			}
			mails := s.Tick(s.now)
			for _, data := range append(g.boxes(t), g.says(t)...) {
				if d.Roll(3) > 0 && s.Open() > 0 {
					mails = append(mails, s.takes(t, data, 99)...)
				}
			}
			for _, mail := range mails {
				if d.Roll(3) > 0 {
					g.hears(t, mail.Data)
				}
			}
		}
		g.puts(t, "whoami\r\nann\necho "+strings.Repeat("x", 60)+"\r\n"+strings.Repeat("x", 60)+"\n"+strings.Repeat("ls /users\r\nann\nbob\n", 50)+"exit 9\r\n", "", "9")
	}
}

// TestTickEnds: P24.4, a session that is done is over at the Tick behind that at which all that it said is acknowledged, and says nothing then.
func TestTickEnds(t *testing.T) {
	for _, symbols := range kinds {
		for _, text := range []string{"run ann whoami\n", "nonsense\n", "login ann -\nexit 3\r", "copy ann /x plain\nE\n"} {
			s := newSite(t, symbols)
			g, other := s.comes(t, "ann@LAND"), s.comes(t, "bob@LAND")
			must(t, 0, g.mux.Write(api.ChanIn, []byte(text)))
			list := s.takes(t, g.says(t)[0], 99)
			g.ticks(t, 5, true)
			mine := g.hears(t, list[1].Data)
			g.ticks(t, 5, true)
			s.takes(t, mine[0], 99)
			g.did(t, s.Served()[0])
			if got := s.Tick(begun); len(got) != 0 || s.Open() != 1 || !s.Served()[0].Over || s.Served()[1].Over {
				t.Errorf("%q: %+v, %+v", text, got, s.Served())
			}
			s.refuses(t, mine[0], "mail", api.ErrMatch, false)
			other.ticks(t, 3, true) // it isn't done
		}
	}
}

// TestTickWaitsForCredit: P24.4, what waits for the other side's credit hasn't gone yet, though all boxes are acknowledged.
func TestTickWaitsForCredit(t *testing.T) {
	big := strings.Repeat("0123456789", 100)
	s := newSite(t, true, probe.File("/f", "ann", 60, big))
	g := s.comes(t, "ann@LAND")
	must(t, 0, g.mux.Write(api.ChanIn, []byte("login ann -\ncat /f\rcat /f\rexit 3\r")))
	late := s.takes(t, g.says(t)[0], 99)[1:]
	acknowledged := 0
	var mine [][]byte
	for _, mail := range late {
		list := g.hears(t, mail.Data)
		s.takes(t, list[0], 99)
		acknowledged++
		mine = append(mine, list[1:]...) // the credit
	}
	if got := s.Tick(begun); len(got) != 0 || s.Open() != 1 || acknowledged != 2 || len(g.got[api.ChanOut]) != 1024 {
		t.Errorf("%+v, %d open, %d acknowledged, %d come", got, s.Open(), acknowledged, len(g.got[api.ChanOut]))
	}
	g.ticks(t, 20, true)
	g.goesOn(t, mine)
	g.puts(t, strings.Repeat("cat /f\r\n"+big, 2)+"exit 3\r\n", "", "3")
	g.ticks(t, 1, false)
}

// TestIdle: P24.4, a session is over at the fortieth Tick behind the last of its boxes that was taken without an error, or behind its coming.
func TestIdle(t *testing.T) {
	for _, symbols := range kinds {
		s := newSite(t, symbols)
		g := s.comes(t, "ann@LAND")
		g.ticks(t, 39, true)
		g.ticks(t, 1, false)

		g = s.comes(t, "ann@LAND")
		g.ticks(t, 39, true)
		must(t, 0, g.mux.Write(api.ChanIn, []byte("x")))
		first := g.says(t)[0]
		list := s.takes(t, first, 99)
		g.ticks(t, 39, true)
		s.takes(t, first, 99) // that it comes again counts
		g.ticks(t, 39, true)
		mine := g.hears(t, list[1].Data)[0]
		s.takes(t, mine, 99) // and so does what only acknowledges
		g.ticks(t, 39, true)
		s.takes(t, g.asked, g.from) // but no coming again
		s.refuses(t, list[1].Data, "mail", api.ErrMatch, false)
		s.refuses(t, g.data(t, []byte("none")), "mail", api.ErrSeal, false)
		g.ticks(t, 1, false)
		g.ticks(t, 50, false)
	}
}

// TestIdleAlone: P24.4, each session is idle by itself.
func TestIdleAlone(t *testing.T) {
	s := newSite(t, true)
	g := s.comes(t, "ann@LAND")
	g.ticks(t, 10, true)
	other := s.comes(t, "ann@LAND")
	g.ticks(t, 29, true)
	other.types(t, "login ann -\n")
	g.ticks(t, 1, false)
	other.ticks(t, 38, true)
	other.ticks(t, 1, false)
}

// TestIdleThoughDone: P24.4, one that is done, but whose client is gone, is over when it is idle, and says nothing more then.
func TestIdleThoughDone(t *testing.T) {
	s := newSite(t, true)
	g := s.comes(t, "ann@LAND")
	must(t, 0, g.mux.Write(api.ChanIn, []byte("run ann whoami\n")))
	list := s.takes(t, g.says(t)[0], 99)
	for range 39 {
		if got := s.Tick(begun); !probe.SameMails(got, list[1:]) {
			t.Errorf("%+v", got)
		}
	}
	if got := s.Tick(begun); len(got) != 0 || s.Open() != 0 {
		t.Errorf("%+v", got)
	}
}

// TestEnd: P24.4, a session is over when its ticket's End is more than Skew ago, whatever goes on in it; Take doesn't look at that.
func TestEnd(t *testing.T) {
	for _, symbols := range kinds {
		s := newSite(t, symbols)
		g := s.asks(t, "ann@LAND", begun+20, 77, 5)
		g.finish(t, one(t, s.takes(t, g.asked, 5), 5))
		other := s.comes(t, "ann@LAND")
		for _, now := range []int64{begun - 500, begun, begun + 20, begun + 30, -1 << 63, begun + 30} {
			s.now = now
			g.ticks(t, 1, true)
			g.types(t, "run ann whoami\n"[:2])
		}
		s.now = 1<<63 - 1
		g.types(t, "n ann")
		s.now = begun + 31
		g.ticks(t, 1, false)
		other.ticks(t, 1, true)
		s.now = begun + 1011
		other.ticks(t, 1, false)
		s.now = begun
		last := s.comes(t, "ann@LAND")
		s.now = 1<<63 - 1
		last.ticks(t, 1, false)
	}
}

// TestEndAtTheEdge: P24.4, a ticket's End may be the greatest there is.
func TestEndAtTheEdge(t *testing.T) {
	s := newSite(t, true)
	g := s.asks(t, "ann@LAND", 1<<40, 77, 5)
	g.finish(t, one(t, s.takes(t, g.asked, 5), 5))
	s.now = 1<<40 + 10
	g.ticks(t, 1, true)
	s.now++
	g.ticks(t, 1, false)
}

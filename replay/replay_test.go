package replay_test

import (
	"math"
	"reflect"
	"slices"
	"strconv"
	"strings"
	"testing"

	"gangway/api"
	"gangway/probe"
	"gangway/replay"
)

const (
	least    = math.MinInt64
	greatest = math.MaxInt64
)

// auth gives an authenticator of a time.
func auth(time int64, nonce uint64) api.Auth {
	return api.Auth{Client: "ann@LAND", Time: time, Nonce: nonce, Subkey: api.Key{1, 15: 2}}
}

// sees looks whether Seen answers this.
func sees(t *testing.T, c *replay.Cache, a api.Auth, now int64, want api.Errno) {
	t.Helper()
	if no := c.Seen(a, now); no != want {
		t.Errorf("%+v at %d: %v, not %v", a, now, no, want)
	}
}

// counts looks whether so many are remembered.
func counts(t *testing.T, c *replay.Cache, want int) {
	t.Helper()
	if n := c.Len(); n != want {
		t.Errorf("%d are remembered, not %d", n, want)
	}
}

// TestNew: P12.1, at first nothing is remembered, and nothing is closed, whatever the time.
func TestNew(t *testing.T) {
	for _, begun := range []int64{least, -1, 0, 100, greatest} {
		for _, time := range []int64{least, -5, 0, 100, greatest} {
			c := replay.New(begun)
			counts(t, c, 0)
			sees(t, c, auth(time, 1), time, api.OK)
			counts(t, c, 1)
		}
	}
}

// TestExample: the chapter's example.
func TestExample(t *testing.T) {
	c := replay.New(0)
	c.Restart(100)
	sees(t, c, auth(110, 1), 100, api.ErrQuarantine)
	sees(t, c, auth(111, 1), 101, api.OK)
	sees(t, c, auth(111, 1), 101, api.ErrReplay)
	counts(t, c, 1)
}

// TestSkew: P12.2 and P12.3, times that are apart by more than 10 aren't taken, in neither direction, without any going round.
func TestSkew(t *testing.T) {
	for _, now := range []int64{0, 5, -5, 1000, -1000, least, least + 5, least + 10, least + 11, greatest - 11, greatest - 10, greatest - 5, greatest} {
		for d := int64(-12); d <= 12; d++ {
			time := now + d
			if (d > 0) != (time > now) && d != 0 {
				continue // there is no such number
			}
			want := api.OK
			if d < -10 || d > 10 {
				want = api.ErrSkew
			}
			c := replay.New(now)
			sees(t, c, auth(time, 1), now, want)
			if want == api.OK {
				counts(t, c, 1)
			} else {
				counts(t, c, 0)
			}
		}
	}
	far := []int64{least, least + 9, least / 2, -11, 0, 11, greatest / 2, greatest - 9, greatest}
	for i, a := range far {
		for j, b := range far {
			if i != j && i+j != 1 && i+j != 15 { // but for the two at each end they are far from each other
				sees(t, replay.New(0), auth(a, 1), b, api.ErrSkew)
			}
		}
	}
}

// others gives authenticators that are all but one that is handed in, each in one field.
func others(a api.Auth) []api.Auth {
	var all []api.Auth
	for _, client := range []string{"", "ann@LAN", "ann@LANDS", "Ann@LAND", "bob@LAND"} {
		b := a
		b.Client = client
		all = append(all, b)
	}
	for _, time := range []int64{a.Time - 1, a.Time + 1} {
		b := a
		b.Time = time
		all = append(all, b)
	}
	for _, nonce := range []uint64{0, a.Nonce + 1, math.MaxUint64} {
		b := a
		b.Nonce = nonce
		all = append(all, b)
	}
	for _, at := range []int{0, 7, 15} {
		b := a
		b.Subkey[at]++
		all = append(all, b)
	}
	return all
}

// TestReplay: P12.2, one that is the same in all fields is known again; one that differs in any isn't.
func TestReplay(t *testing.T) {
	c := replay.New(100)
	a := auth(100, 7)
	all := append(others(a), a)
	for i, b := range all {
		sees(t, c, b, 100, api.OK)
		counts(t, c, i+1)
	}
	for _, b := range all {
		for _, now := range []int64{91, 95, 100, 105, 109} {
			sees(t, c, b, now, api.ErrReplay)
		}
	}
	counts(t, c, len(all))
}

// TestReplayTillForgotten: P12.2, one is known again as long as it could be taken.
func TestReplayTillForgotten(t *testing.T) {
	for _, time := range []int64{0, -1000, least, greatest - 20} {
		c := replay.New(time)
		a := auth(time, 1)
		sees(t, c, a, time, api.OK)
		for now := time; now <= time+10; now++ {
			sees(t, c, a, now, api.ErrReplay)
			counts(t, c, 1)
		}
		sees(t, c, a, time+11, api.ErrSkew)
		counts(t, c, 1) // with ErrSkew none is forgotten
		sees(t, c, auth(time+11, 1), time+11, api.OK)
		counts(t, c, 1)
	}
}

// TestReplayAhead: P12.2, one of a time ahead of the server's is known for as long as that.
func TestReplayAhead(t *testing.T) {
	c := replay.New(100)
	a := auth(110, 1)
	sees(t, c, a, 100, api.OK)
	for now := int64(100); now <= 120; now++ {
		sees(t, c, a, now, api.ErrReplay)
	}
	sees(t, c, auth(121, 1), 120, api.OK)
	counts(t, c, 2)
	sees(t, c, auth(121, 2), 121, api.OK)
	counts(t, c, 2)
}

// full gives a cache that remembers 16: of the times 100 to 115, that came at 105.
func full(t *testing.T) *replay.Cache {
	t.Helper()
	c := replay.New(0)
	for n := range 16 {
		sees(t, c, auth(int64(100+n), uint64(n)), 105, api.OK)
		counts(t, c, n+1)
	}
	return c
}

// TestFull: P12.2, a 17th isn't taken; one that came is known, nevertheless.
func TestFull(t *testing.T) {
	c := full(t)
	for _, now := range []int64{95, 105, 110} {
		for time := now - 10; time <= now+10; time++ {
			sees(t, c, auth(time, 99), now, api.ErrFull)
		}
		counts(t, c, 16)
	}
	for n := range 16 {
		sees(t, c, auth(int64(100+n), uint64(n)), 110, api.ErrReplay) // told ahead of ErrFull
	}
	sees(t, c, auth(99, 99), 110, api.ErrSkew) // so is this
	counts(t, c, 16)
}

// TestForgetting: P12.2, all whose time is below now by more than 10 are forgotten, and there is room for as many.
func TestForgetting(t *testing.T) {
	for gone := 1; gone <= 16; gone++ {
		c := full(t)
		now := int64(110 + gone)
		for n := range gone {
			sees(t, c, auth(now, uint64(100+n)), now, api.OK)
			counts(t, c, 16-gone+n+1)
		}
		sees(t, c, auth(now, 99), now, api.ErrFull)
		for n := gone; n < 16; n++ {
			sees(t, c, auth(int64(100+n), uint64(n)), now, api.ErrReplay)
		}
		counts(t, c, 16)
	}
}

// TestForgottenStays: P12.2, with an error, too, they are forgotten; if the time falls they don't come back.
func TestForgottenStays(t *testing.T) {
	c := full(t)
	sees(t, c, auth(115, 15), 113, api.ErrReplay)
	counts(t, c, 13)
	for n := range 3 {
		sees(t, c, auth(int64(100+n), uint64(n)), 105, api.OK) // P12.4 holds only while times don't fall
	}
	counts(t, c, 16)
	sees(t, c, auth(100, 99), 105, api.ErrFull)
	counts(t, c, 16)
}

// TestErrorsAheadForgetNone: P12.2, with ErrSkew and ErrQuarantine none is forgotten yet.
func TestErrorsAheadForgetNone(t *testing.T) {
	c := replay.New(0)
	c.Restart(100)
	sees(t, c, auth(111, 1), 105, api.OK)
	sees(t, c, auth(111, 1), 122, api.ErrSkew)
	sees(t, c, auth(200, 1), 122, api.ErrSkew)
	counts(t, c, 1)

	c = replay.New(0)
	c.Restart(least)
	sees(t, c, auth(least+11, 1), least+1, api.OK)
	sees(t, c, auth(least+10, 1), least+20, api.ErrQuarantine)
	sees(t, c, auth(least+10, 1), least+22, api.ErrSkew)
	counts(t, c, 1)
}

// TestRestart: P12.1, nothing is remembered any more; it is closed for all that is not above its time by more than 10, and for nothing else.
func TestRestart(t *testing.T) {
	for _, begun := range []int64{0, 100, -100, least, least + 5, least + 30} {
		c := replay.New(0)
		for n := range 16 {
			sees(t, c, auth(begun, uint64(n)), begun, api.OK)
		}
		c.Restart(begun)
		counts(t, c, 0)
		for d := int64(-30); d <= 30; d++ {
			time := begun + d
			if (d > 0) != (time > begun) && d != 0 {
				continue // there is no such number
			}
			want := api.OK
			if d <= 10 {
				want = api.ErrQuarantine
			}
			sees(t, c, auth(time, 3), time, want)
		}
	}
}

// TestRestartAtTheEnd: P12.1, where no number is above by more than 10 all is closed, without any going round.
func TestRestartAtTheEnd(t *testing.T) {
	for _, begun := range []int64{greatest - 10, greatest - 5, greatest} {
		c := replay.New(0)
		c.Restart(begun)
		for _, time := range []int64{least, -11, -1, 0, 1, 100, greatest - 11, greatest - 1, greatest} {
			sees(t, c, auth(time, 1), time, api.ErrQuarantine)
		}
		counts(t, c, 0)
	}
	c := replay.New(0)
	c.Restart(greatest - 11)
	sees(t, c, auth(greatest-1, 1), greatest, api.ErrQuarantine)
	sees(t, c, auth(greatest, 1), greatest-1, api.OK)
}

// TestRestarts: P12.1, a later Restart closes for the greater one of its time and the elder one's.
func TestRestarts(t *testing.T) {
	for _, nows := range [][]int64{
		{100, 100}, {100, 150}, {150, 100}, {100, 105}, {105, 100}, {-50, -100}, {-100, -50}, {-7, 0}, {0, -7}, {least, 5}, {5, least},
		{100, 50, 75}, {50, 100, 75}, {75, 50, 100}, {least, least}, {least, least + 1, least},
	} {
		c := replay.New(1000)
		for _, now := range nows {
			c.Restart(now)
			counts(t, c, 0)
		}
		till := slices.Max(nows) + 10
		for n := range int64(12) {
			if n < 11 {
				sees(t, c, auth(till-n, 1), till-n, api.ErrQuarantine)
			}
			sees(t, c, auth(till+1+n, 1), till+1+n, api.OK)
		}
	}
}

// TestNewClosesNothing: P12.1, the time of New is none of a Restart: the first one closes for its own, also if that is smaller.
func TestNewClosesNothing(t *testing.T) {
	for _, begun := range []int64{101, 1000, greatest} {
		c := replay.New(begun)
		c.Restart(100)
		sees(t, c, auth(110, 1), 110, api.ErrQuarantine)
		sees(t, c, auth(111, 1), 111, api.OK)
	}
	c := replay.New(0)
	c.Restart(-100)
	sees(t, c, auth(-90, 1), -90, api.ErrQuarantine)
	sees(t, c, auth(-89, 1), -89, api.OK)
}

// TestQuarantineOrder: P12.2, ErrSkew is told ahead of ErrQuarantine, and that ahead of what is remembered.
func TestQuarantineOrder(t *testing.T) {
	c := replay.New(0)
	c.Restart(100)
	for _, now := range []int64{99, 121, 500, least, greatest} {
		sees(t, c, auth(110, 1), now, api.ErrSkew)
	}
	for n := range 16 {
		sees(t, c, auth(111, uint64(n)), 105, api.OK)
	}
	sees(t, c, auth(110, 0), 105, api.ErrQuarantine) // ahead of ErrFull
	sees(t, c, auth(111, 0), 105, api.ErrReplay)
	counts(t, c, 16)
	c.Restart(100) // closes no further, but what is remembered goes
	sees(t, c, auth(111, 0), 105, api.OK)
	c.Restart(101)
	sees(t, c, auth(111, 0), 105, api.ErrQuarantine)
	counts(t, c, 0)
}

// TestNothingIsKept: rule 5, the text of an authenticator may be written over behind the call.
func TestNothingIsKept(t *testing.T) {
	c := replay.New(0)
	a, b := auth(5, 1), auth(5, 1)
	b.Client = strings.Clone(a.Client)
	sees(t, c, b, 5, api.OK)
	spoilText(b.Client)
	sees(t, c, a, 5, api.ErrReplay)
	sees(t, c, b, 5, api.OK)
	counts(t, c, 2)
}

// TestApart: rule 6, what is done to one cache isn't seen in another.
func TestApart(t *testing.T) {
	a, b := replay.New(0), replay.New(0)
	sees(t, a, auth(5, 1), 5, api.OK)
	counts(t, b, 0)
	sees(t, b, auth(5, 1), 5, api.OK)
	b.Restart(5)
	counts(t, a, 1)
	sees(t, a, auth(5, 2), 5, api.OK)
	sees(t, b, auth(5, 2), 5, api.ErrQuarantine)
}

// model is a cache as a list; restarts are the times of all Restarts.
type model struct {
	came     []api.Auth
	restarts []int64
}

// seen does as Seen does, with numbers that are far from the edges.
func (m *model) seen(a api.Auth, now int64) api.Errno {
	if a.Time-now > 10 || now-a.Time > 10 {
		return api.ErrSkew
	}
	for _, begun := range m.restarts {
		if a.Time <= begun+10 {
			return api.ErrQuarantine
		}
	}
	m.came = slices.DeleteFunc(m.came, func(b api.Auth) bool { return b.Time < now-10 })
	if slices.Contains(m.came, a) {
		return api.ErrReplay
	}
	if len(m.came) == 16 {
		return api.ErrFull
	}
	m.came = append(m.came, a)
	return api.OK
}

// TestLongRun: P12.1 to P12.3, many calls in no order, at times that rise and fall, held against a list.
func TestLongRun(t *testing.T) {
	met := map[api.Errno]int{}
	random := probe.Bytes(12, 60000)
	for begin := 0; begin < len(random); begin += 6000 {
		c := replay.New(int64(begin))
		var m model
		for i, r := range random[begin : begin+6000] {
			now := int64(i/50) + int64(r%4)
			if r == 77 {
				c.Restart(now)
				m.came, m.restarts = nil, append(m.restarts, now)
			}
			next := int64(random[(begin+i*7+1)%len(random)])
			a := auth(now+next%25-12, uint64(next/128))
			want := m.seen(a, now)
			sees(t, c, a, now, want)
			met[want]++
			if counts(t, c, len(m.came)); t.Failed() {
				t.FailNow()
			}
		}
	}
	for _, e := range []api.Errno{api.OK, api.ErrSkew, api.ErrQuarantine, api.ErrReplay, api.ErrFull} {
		if met[e] < 1000 {
			t.Errorf("%v was met %d times", e, met[e])
		}
	}
}

// TestNoneTwice: P12.4, while times don't fall none is taken twice, whatever Restarts there are in between.
func TestNoneTwice(t *testing.T) {
	taken, refused := map[api.Auth]int{}, 0
	for seed := range uint64(200) {
		c := replay.New(int64(seed))
		clear(taken)
		now := int64(-50)
		for i, r := range probe.Bytes(seed, 1500) {
			switch {
			case r < 20:
				now += int64(r % 3)
			case r == 255 && i%4 == 0:
				c.Restart(now)
			case r == 254 && i%4 == 0:
				c.Restart(now + 5)
				now += 5
			}
			a := api.Auth{Client: strconv.Itoa(int(r % 2)), Time: now - 11 + int64(r%23)}
			if c.Seen(a, now) == api.OK {
				taken[a]++
			} else {
				refused++
			}
		}
		for a, n := range taken {
			if n > 1 {
				t.Errorf("seed %d: %+v was taken %d times", seed, a, n)
			}
		}
		if len(taken) < 10 {
			t.Errorf("seed %d: only %d were taken", seed, len(taken))
		}
	}
	if refused < 1000 {
		t.Errorf("only %d were refused", refused)
	}
}

// TestAnyArguments: P1 and P2, each call ends, without a panic, and answers the same in a second run.
func TestAnyArguments(t *testing.T) {
	at := []int64{least, least + 10, -1, 0, 1, greatest - 10, greatest, 5, 15}
	answers := func(text string) []any {
		c := replay.New(at[len(text)%len(at)])
		var out []any
		for i := range text {
			time, now := at[text[i]%9], at[(int(text[i])+i)%9]
			a := api.Auth{Client: text[:i/2], Time: time, Nonce: uint64(i % 2)}
			out = append(out, c.Seen(a, time), c.Seen(a, now), c.Seen(a, time), c.Len())
			if text[i] == 'r' {
				c.Restart(now)
			}
		}
		return append(out, c.Len())
	}
	if s, parts := probe.Parting(probe.Texts("abcder\x00\xff", 5), answers, reflect.DeepEqual); parts {
		t.Errorf("%q: two runs part", s)
	}
}

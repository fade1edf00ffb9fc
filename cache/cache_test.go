package cache_test

import (
	"math"
	"reflect"
	"slices"
	"strconv"
	"strings"
	"testing"

	"gangway/api"
	"gangway/cache"
	"gangway/probe"
)

const last = 1 << 40 // the greatest time

// cred gives an ordinary ticket for a server, till a time.
func cred(server string, end int64) api.Cred {
	return api.Cred{
		Client: "ann@LAND", Ticket: []byte("box of " + server),
		Grant: api.Grant{Server: server, Key: api.Key{1, 15: byte(end)}, Nonce: math.MaxUint64, End: end, Flags: 3},
	}
}

// host gives the name of a server with a number; they rise with it up to 89.
func host(n int) string { return "host/s" + strconv.Itoa(10+n) + "@LAND" }

// puts looks whether Put answers this.
func puts(t *testing.T, c *cache.Cache, x api.Cred, now int64, want api.Errno) {
	t.Helper()
	if no := c.Put(x, now); no != want {
		t.Errorf("%.80q for %.80q, till %d, at %d: %v, not %v", x.Client, x.Grant.Server, x.Grant.End, now, no, want)
	}
}

// finds looks whether Find gives just this ticket at a time.
func finds(t *testing.T, c *cache.Cache, want api.Cred, now int64) {
	t.Helper()
	if got, ok := c.Find(want.Grant.Server, now); !ok || !probe.SameCred(got, want) {
		t.Errorf("%+v, %v, not %+v, at %d", got, ok, want, now)
	}
}

// lacks looks whether Find gives none for a server at a time.
func lacks(t *testing.T, c *cache.Cache, server string, now int64) {
	t.Helper()
	if got, ok := c.Find(server, now); ok || !reflect.DeepEqual(got, api.Cred{}) {
		t.Errorf("%.80q at %d: %+v, %v", server, now, got, ok)
	}
}

// tells looks whether Servers tells just these.
func tells(t *testing.T, c *cache.Cache, want ...string) {
	t.Helper()
	if got := c.Servers(); !slices.Equal(got, want) {
		t.Errorf("%q, not %q", got, want)
	}
}

// TestNew: P11.1 and P11.2, at first there is nothing.
func TestNew(t *testing.T) {
	c := cache.New()
	tells(t, c)
	for _, server := range []string{"host/s1@LAND", "", "no name"} {
		for _, now := range []int64{math.MinInt64, 0, math.MaxInt64} {
			lacks(t, c, server, now)
		}
		if c.Drop(server) {
			t.Errorf("%q was there", server)
		}
	}
	tells(t, c)
}

// TestExample: the chapter's example.
func TestExample(t *testing.T) {
	c := cache.New()
	x := cred("host/s1@LAND", 10)
	puts(t, c, x, 5, api.OK)
	finds(t, c, x, 10)
	lacks(t, c, "host/s1@LAND", 11)
	tells(t, c, "host/s1@LAND")
	puts(t, c, cred("host/s2@LAND", 20), 10, api.OK)
	tells(t, c, "host/s1@LAND", "host/s2@LAND")
	puts(t, c, cred("host/s3@LAND", 20), 11, api.OK)
	tells(t, c, "host/s2@LAND", "host/s3@LAND")
	lacks(t, c, "host/s1@LAND", 10)
}

// rights gives tickets that are right, at the edges of it.
func rights() []api.Cred {
	all := []api.Cred{{Client: "ann@LAND", Grant: api.Grant{Server: "host/s1@LAND"}}}
	for _, n := range probe.Names() {
		x, y := cred("host/s1@LAND", 10), cred(n, 10)
		x.Client = n
		all = append(all, x, y)
	}
	for _, span := range [][2]int64{{0, 0}, {0, 1}, {0, last}, {1, 1}, {100, 200}, {last - 1, last}, {last, last}} {
		x := cred("host/s1@LAND", span[1])
		x.Grant.Start = span[0]
		all = append(all, x)
	}
	for flags := range 4 {
		x := cred("host/s1@LAND", 10)
		x.Grant.Flags, x.Grant.Nonce = flags, uint64(flags)
		all = append(all, x)
	}
	for _, box := range [][]byte{nil, {}, {0}, probe.Bytes(3, 70000)} {
		x := cred("host/s1@LAND", 10)
		x.Ticket, x.Grant.Key = box, api.Key(probe.Bytes(4, 16))
		all = append(all, x)
	}
	return all
}

// wrongs gives tickets that aren't right.
func wrongs() []api.Cred {
	all := []api.Cred{{}, {Client: "ann@LAND"}, {Grant: api.Grant{Server: "host/s1@LAND"}}}
	for _, n := range probe.NotNames() {
		x, y := cred("host/s1@LAND", 10), cred(n, 10)
		x.Client = n
		all = append(all, x, y)
	}
	for _, span := range [][2]int64{
		{-1, 10}, {-1, -1}, {11, 10}, {last, last - 1}, {0, last + 1}, {last + 1, last + 1}, {last + 1, last}, {0, -1}, {5, -5},
		{math.MinInt64, 0}, {0, math.MaxInt64}, {math.MinInt64, math.MaxInt64}, {0, math.MinInt64}, {math.MaxInt64, math.MinInt64},
	} {
		x := cred("host/s1@LAND", span[1])
		x.Grant.Start = span[0]
		all = append(all, x)
	}
	for _, flags := range []int{-1, 4, 5, 256, 257, math.MaxInt, math.MinInt, math.MinInt + 1} {
		x := cred("host/s1@LAND", 10)
		x.Grant.Flags = flags
		all = append(all, x)
	}
	return all
}

// TestPut: P11.1 and P11.2, what is right is the one for its server, field by field, till its time has ended.
func TestPut(t *testing.T) {
	one := cache.New()
	for _, x := range rights() {
		c := cache.New()
		for _, now := range []int64{math.MinInt64, -1, 0, x.Grant.End - 1, x.Grant.End} {
			puts(t, c, x, now, api.OK)
			tells(t, c, x.Grant.Server)
			finds(t, c, x, math.MinInt64)
			finds(t, c, x, x.Grant.End)
			lacks(t, c, x.Grant.Server, x.Grant.End+1)
			lacks(t, c, x.Grant.Server, math.MaxInt64)
		}
		puts(t, one, x, -1, api.OK) // in place of what there was for its server
		finds(t, one, x, -1)
	}
}

// TestPutWrong: P11.1, what isn't right does not go in, at any time, and changes nothing.
func TestPutWrong(t *testing.T) {
	empty, c := cache.New(), cache.New()
	x := cred("host/s1@LAND", 10)
	puts(t, c, x, 0, api.OK)
	for _, y := range wrongs() {
		for _, now := range []int64{math.MinInt64, 0, 10, 11, last + 2, math.MaxInt64} { // told ahead of ErrExpired
			puts(t, empty, y, now, api.ErrArg)
			puts(t, c, y, now, api.ErrArg)
		}
		lacks(t, empty, y.Grant.Server, 0)
	}
	tells(t, empty)
	tells(t, c, "host/s1@LAND")
	finds(t, c, x, 10)
}

// TestPutExpired: P11.1, one whose time has ended does not go in, not even in place of another; and then none goes.
func TestPutExpired(t *testing.T) {
	for _, end := range []int64{0, 1, 10, last - 1, last} {
		c := cache.New()
		old := cred("host/old@LAND", 0)
		puts(t, c, old, 0, api.OK)
		x := cred("host/s1@LAND", end)
		x.Ticket = []byte("elder")
		puts(t, c, x, 0, api.OK)
		for _, now := range []int64{end + 1, end + 100, math.MaxInt64} {
			puts(t, c, cred("host/s1@LAND", end), now, api.ErrExpired)
			puts(t, c, cred("host/s2@LAND", end), now, api.ErrExpired)
		}
		tells(t, c, "host/old@LAND", "host/s1@LAND")
		finds(t, c, x, end)
		finds(t, c, old, 0)
	}
}

// full gives a cache with eight tickets, and these: the first one ends at 100, each next one 10 later.
func full(t *testing.T) (*cache.Cache, []api.Cred) {
	t.Helper()
	c := cache.New()
	var all []api.Cred
	for n := range 8 {
		x := cred(host(n), int64(100+10*n))
		puts(t, c, x, 50, api.OK)
		all = append(all, x)
	}
	holds(t, c, all, 50)
	return c, all
}

// holds looks whether there are just these tickets, which are in order.
func holds(t *testing.T, c *cache.Cache, want []api.Cred, now int64) {
	t.Helper()
	var servers []string
	for _, x := range want {
		servers = append(servers, x.Grant.Server)
		finds(t, c, x, now)
	}
	tells(t, c, servers...)
}

// TestPutFull: P11.1, a ninth does not go in; another one for a server for which there is one does.
func TestPutFull(t *testing.T) {
	c, all := full(t)
	for n := 8; n < 11; n++ {
		puts(t, c, cred(host(n), 500), 100, api.ErrFull)
		lacks(t, c, host(n), 100)
	}
	holds(t, c, all, 100)
	for _, x := range wrongs() {
		puts(t, c, x, 50, api.ErrArg) // told ahead of ErrFull
	}
	puts(t, c, cred(host(8), 49), 50, api.ErrExpired) // so is this
	for n := range all {
		all[n].Ticket, all[n].Grant.End = []byte("another"), int64(100+n)
		puts(t, c, all[n], 99, api.OK)
	}
	holds(t, c, all, 99)
	puts(t, c, cred(host(8), 500), 99, api.ErrFull)
}

// TestPutMakesRoom: P11.1, all whose time has ended go, whichever and how many they are, and there is room for as many.
func TestPutMakesRoom(t *testing.T) {
	for gone := 1; gone <= 8; gone++ {
		c, all := full(t)
		now := all[gone-1].Grant.End + 1
		left := append(slices.Clone(all[gone:]), cred(host(8), 500))
		puts(t, c, left[len(left)-1], now, api.OK)
		holds(t, c, left, now)
		for n := range gone - 1 {
			left = append(left, cred(host(9+n), 500))
			puts(t, c, left[len(left)-1], now, api.OK)
		}
		puts(t, c, cred(host(30), 500), now, api.ErrFull)
		holds(t, c, left, now)
	}
}

// TestPutAgain: P11.1, one for a server for which there is one takes no room, also where the elder one's time has ended.
func TestPutAgain(t *testing.T) {
	c, all := full(t)
	all[0].Grant.End = 500
	puts(t, c, all[0], 101, api.OK)
	holds(t, c, all, 101)
	puts(t, c, cred(host(8), 500), 101, api.ErrFull)
	puts(t, c, all[0], 111, api.OK) // the second one's time has ended
	holds(t, c, append(all[:1:1], all[2:]...), 111)
}

// TestTimesFall: P11.1 and P11.2, what has gone stays so, though the time falls; what hasn't is found again.
func TestTimesFall(t *testing.T) {
	c, all := full(t)
	lacks(t, c, host(0), 500)
	finds(t, c, all[0], 50)
	puts(t, c, all[7], 121, api.OK)
	holds(t, c, all[3:], 50)
	for n := range 3 {
		lacks(t, c, host(n), 50)
	}
}

// TestOtherServers: P11.2, servers are held against each other whole; clients aren't asked for.
func TestOtherServers(t *testing.T) {
	c := cache.New()
	x := cred("host/s1@LAND", 10)
	puts(t, c, x, 0, api.OK)
	for _, server := range []string{"", "host/s1", "host/s1@LAN", "host/s1@LANDS", "Host/s1@LAND", "host/s@LAND", "ann@LAND", "host/s1@LAND\x00", " host/s1@LAND"} {
		lacks(t, c, server, 0)
		if c.Drop(server) {
			t.Errorf("%q was there", server)
		}
	}
	finds(t, c, x, 0)
	x.Client = "bob@LAND"
	puts(t, c, x, 0, api.OK)
	finds(t, c, x, 0)
	tells(t, c, "host/s1@LAND")
}

// TestDrop: P11.2, one is dropped once, and only it, also where its time has ended; then there is room for one.
func TestDrop(t *testing.T) {
	for n := range 8 {
		c, all := full(t)
		if lacks(t, c, host(n), 500); !c.Drop(host(n)) || c.Drop(host(n)) {
			t.Errorf("%q wasn't there just once", host(n))
		}
		lacks(t, c, host(n), 50)
		left := slices.Delete(slices.Clone(all), n, n+1)
		holds(t, c, left, 50)
		left = append(left, cred(host(8), 500))
		puts(t, c, left[7], 50, api.OK)
		puts(t, c, all[n], 50, api.ErrFull)
		holds(t, c, left, 50)
	}
}

// TestServers: P11.2, the servers rise byte by byte, in whatever order they came.
func TestServers(t *testing.T) {
	rising := []string{"+@R", "10@R", "2@R", "B@A", "a+@R", "a/b@R", "a@R", "a@RR"}
	for turn := range rising {
		c := cache.New()
		for i := range rising {
			puts(t, c, cred(rising[(i*5+turn)%len(rising)], int64(i)), 0, api.OK)
		}
		tells(t, c, rising...)
	}
}

// TestApart: rule 6, what is done to one cache isn't seen in another.
func TestApart(t *testing.T) {
	a, b := cache.New(), cache.New()
	x, y := cred(host(1), 10), cred(host(2), 10)
	puts(t, a, x, 0, api.OK)
	tells(t, b)
	lacks(t, b, host(1), 0)
	puts(t, b, y, 0, api.OK)
	a.Drop(host(2))
	holds(t, a, []api.Cred{x}, 0)
	holds(t, b, []api.Cred{y}, 0)
}

// spoil writes over all memory of a ticket.
func spoil(x api.Cred) {
	probe.Spoil(x.Ticket)
	for _, text := range []string{x.Client, x.Grant.Server} {
		spoilText(text)
	}
}

// TestNothingIsKept: P11.3, a ticket and its texts may be written over behind the call, and aren't written to in it.
func TestNothingIsKept(t *testing.T) {
	c := cache.New()
	want := cred(host(1), 10)
	for range 2 { // the second one comes in place of the first
		x := want
		box, all := probe.Roomy(string(want.Ticket))
		x.Client, x.Ticket, x.Grant.Server = strings.Clone(want.Client), box, strings.Clone(want.Grant.Server)
		puts(t, c, x, 0, api.OK)
		if !probe.SameCred(x, want) || string(all) != string(want.Ticket)+probe.Spare {
			t.Errorf("%+v, %q", x, all)
		}
		spoil(x)
		holds(t, c, []api.Cred{want}, 0)
	}
}

// TestAnswersAreNew: P11.3, answers may be written over, and their spare room; neither the cache nor another answer has it.
func TestAnswersAreNew(t *testing.T) {
	c, all := full(t)
	for n, x := range all {
		one, _ := c.Find(host(n), 50)
		two, _ := c.Find(host(n), 50)
		spoil(one)
		if !probe.SameCred(two, x) {
			t.Errorf("answers share memory: %+v", two)
		}
		finds(t, c, x, 50)
	}
	one, two := c.Servers(), c.Servers()
	for _, server := range one {
		spoilText(server)
	}
	room := one[:cap(one)]
	for i := range room {
		room[i] = "x"
	}
	if len(two) != 8 || two[0] != host(0) || two[7] != host(7) {
		t.Errorf("lists share memory: %q", two)
	}
	holds(t, c, all, 50)
}

// model is a cache as a list.
type model []api.Cred

// find gives where the ticket for a server stands; below 0, if there is none.
func (m model) find(server string) int {
	return slices.IndexFunc(m, func(x api.Cred) bool { return x.Grant.Server == server })
}

// put does as Put does with what is right.
func (m *model) put(x api.Cred, now int64) api.Errno {
	if x.Grant.End < now {
		return api.ErrExpired
	}
	*m = slices.DeleteFunc(*m, func(x api.Cred) bool { return x.Grant.End < now })
	if i := m.find(x.Grant.Server); i >= 0 {
		(*m)[i] = x
	} else if len(*m) == 8 {
		return api.ErrFull
	} else {
		*m = append(*m, x)
	}
	return api.OK
}

// drop does as Drop does.
func (m *model) drop(server string) bool {
	i := m.find(server)
	if i >= 0 {
		*m = slices.Delete(*m, i, i+1)
	}
	return i >= 0
}

// servers does as Servers does.
func (m model) servers() []string {
	var all []string
	for _, x := range m {
		all = append(all, x.Grant.Server)
	}
	slices.Sort(all)
	return all
}

// TestLongRun: P11.1 and P11.2, many calls in no order, at times that rise and fall, held against a list.
func TestLongRun(t *testing.T) {
	c := cache.New()
	var m model
	met := map[api.Errno]int{}
	random := probe.Bytes(11, 60000)
	for i := 0; i < len(random); i += 3 {
		server, now := host(int(random[i]%14)), int64(i/100)+int64(random[i+1]%8)
		if random[i] < 210 {
			x := cred(server, int64(i/100)+int64(random[i+2]%32))
			x.Grant.Nonce = uint64(i)
			want := m.put(x, now)
			puts(t, c, x, now, want)
			met[want]++
		} else if got, want := c.Drop(server), m.drop(server); got != want {
			t.Errorf("%d: Drop of %q: %v", i, server, got)
		}
		if at := m.find(server); at >= 0 && m[at].Grant.End >= now {
			finds(t, c, m[at], now)
		} else {
			lacks(t, c, server, now)
		}
		if tells(t, c, m.servers()...); t.Failed() {
			t.FailNow()
		}
	}
	if met[api.OK] < 100 || met[api.ErrFull] < 100 || met[api.ErrExpired] < 100 {
		t.Errorf("%v", met)
	}
}

// TestAnyArguments: P1 and P2, each call ends, without a panic, and answers the same in a second run.
func TestAnyArguments(t *testing.T) {
	answers := func(text string) []any {
		c := cache.New()
		out := []any{c.Drop(text), c.Put(cred("a@a", 99), 0)}
		for i := range text {
			n := int64(text[i])
			x := cred("x"+text[:i]+"@a", n)
			x.Ticket = []byte(text)
			out = append(out, c.Put(x, n-97), c.Put(cred(text, n), math.MinInt64), c.Put(cred(text[i:], math.MinInt64), math.MaxInt64))
		}
		for _, now := range []int64{math.MinInt64, 97, math.MaxInt64} {
			x, ok := c.Find(text, now)
			y, known := c.Find("x@a", now)
			out = append(out, x, ok, y, known)
		}
		return append(out, c.Servers(), c.Drop(text), c.Drop("x@a"), c.Servers())
	}
	if s, parts := probe.Parting(probe.Texts("a/@.\x00\xff", 5), answers, reflect.DeepEqual); parts {
		t.Errorf("%q: two runs part", s)
	}
}

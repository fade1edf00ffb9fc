package world_test

import (
	"bytes"
	"container/list"

	"gangway/api"
	"gangway/base"
	"gangway/client"
	"gangway/kdc"
	"gangway/krb"
	"gangway/seal"
	"gangway/server"
	"gangway/tree"
)

// twin does what a world does, built in another way: its hosts are calls, its mails a chain.
type twin struct {
	sealer   *seal.Sealer
	entries  []api.Entry
	stations []station
	underWay *list.List
	seen     []string
	thefts   []api.Theft
	has      map[int]bool // the principals whose keys were stolen
	count    int
}

// station is a host; what it hasn't is nil.
type station struct {
	now     int64
	files   *tree.Tree
	tick    func(now int64) []api.Mail
	take    func(mail api.Mail, now int64) ([]api.Mail, error)
	want    func(w api.Want, to int) api.Errno
	restart func(now int64)
	served  func() []api.Served
	log     func() []api.Ran
	got     func() []api.Got
}

// newTwin gives a twin in which nothing has happened.
func newTwin(symbols bool, servers, clients int) *twin {
	x := &twin{sealer: seal.New(symbols, api.Key{0: 0xf2}), entries: principals(servers, clients), underWay: list.New(), has: map[int]bool{}}
	b := base.New()
	for n := len(x.entries) - 1; n >= 0; n-- {
		b.Put(x.entries[n])
	}
	k := kdc.New(x.sealer, b, "LAND")
	x.stations = append(x.stations, station{now: begun, tick: func(int64) []api.Mail { return nil }, take: func(mail api.Mail, now int64) ([]api.Mail, error) {
		if m, e := krb.Read(mail.Data); e == api.OK && (m.Kind == 1 || m.Kind == 2) {
			data, _ := krb.Write(k.Answer(m, now))
			return []api.Mail{{To: mail.From, Data: data}}, nil
		}
		return nil, &api.Fault{At: "mail", Why: api.ErrForm}
	}})
	for n := 1; n <= servers; n++ {
		x.stations = append(x.stations, x.serves(x.entries[n]))
	}
	for n := servers + 1; n <= servers+clients; n++ {
		x.stations = append(x.stations, x.uses(n))
	}
	return x
}

// serves gives a server.
func (x *twin) serves(own api.Entry) station {
	files := tree.New()
	files.Mkdir("root", "/users", 7*8+5)
	files.Chmod("root", "/users", 7*8+7)
	files.Mkdir("bob", "/users/bob", 7*8+5)
	files.Mkdir("ann", "/users/ann", 7*8+5)
	files.Chmod("root", "/users", 7*8+5)
	s, _ := server.New(x.sealer, own, files, "\nDEFAULT\n\n", begun)
	take := func(mail api.Mail, now int64) ([]api.Mail, error) { return s.Take(mail.Data, mail.From, now) }
	return station{now: begun, files: files, tick: s.Tick, take: take, restart: s.Restart, served: s.Served, log: s.Log}
}

// uses gives a client.
func (x *twin) uses(n int) station {
	files := tree.New()
	files.Write("root", "/one", []byte("alone"), 7*8+4)
	files.Mkdir("root", "/src", 7*8+5)
	files.Mkdir("root", "/src/d", 7*8)
	files.Write("root", "/src/d/b", bytes.Repeat([]byte{0}, 100), 6*8)
	files.Write("root", "/src/a", []byte{'f', 'i', 'r', 's', 't'}, 7*8+4)
	c := client.New(x.sealer, x.entries[n], "krbtgt/LAND@LAND", files, n)
	take := func(mail api.Mail, now int64) ([]api.Mail, error) { return c.Take(mail.Data, now) }
	return station{now: begun, files: files, tick: c.Tick, take: take, want: c.Want, got: c.Got}
}

// Do lets something happen.
func (x *twin) Do(e api.Event) error {
	n := x.count
	x.count++
	at, why, err := "step", api.ErrStep, error(nil)
	switch {
	case e.Kind == api.EvWant && x.find(e.Who).want != nil && x.find(e.K).restart != nil:
		at, why = "want", x.find(e.Who).want(e.Want, e.K)
	case e.Kind == api.EvTick && x.find(e.Who).tick != nil:
		s := x.find(e.Who)
		s.now++
		x.goes(e.Who, s.tick(s.now))
		why = api.OK
	case e.Kind >= api.EvDeliver && e.Kind <= api.EvCopy:
		why, err = x.mail(e.Kind, e.K)
	case e.Kind == api.EvInject && x.find(e.Who).tick != nil && x.find(e.K).tick != nil:
		why = api.OK
		if x.underWay.Len() == 2000 {
			why = api.ErrFull
		} else if len(e.Data) > 5000 {
			why = api.ErrLong
		} else {
			x.underWay.PushBack(api.Mail{From: e.K, To: e.Who, Data: bytes.Clone(e.Data)})
		}
	case e.Kind == api.EvForge && x.find(e.Who).tick != nil:
		why = api.ErrDenied
		if x.has[e.Who] {
			_, why = x.sealer.Seal(x.entries[e.Who].Key, e.K, e.Data)
		}
	case e.Kind == api.EvRestart && x.find(e.Who).restart != nil:
		x.find(e.Who).restart(x.find(e.Who).now)
		why = api.OK
	case e.Kind == api.EvSteal && x.find(e.Who).tick != nil:
		x.has[e.Who], why = true, api.OK
		x.thefts = append(x.thefts, api.Theft{Name: x.entries[e.Who].Name, At: n})
	}
	if why != api.OK {
		return &api.Fault{At: at, Why: why}
	}
	return err
}

// find gives a host, or one that has nothing.
func (x *twin) find(n int) *station {
	for i := range x.stations {
		if i == n {
			return &x.stations[i]
		}
	}
	return &station{}
}

// mail does what an event of the kind wants of a mail.
func (x *twin) mail(kind, k int) (api.Errno, error) {
	at := x.underWay.Front()
	for n := 0; n < k && at != nil; n++ {
		at = at.Next()
	}
	if at == nil || k < 0 {
		return api.ErrStep, nil
	}
	mail := at.Value.(api.Mail)
	if kind == api.EvCopy {
		if x.underWay.Len() >= 2000 {
			return api.ErrFull, nil
		}
		x.underWay.PushBack(mail)
		return api.OK, nil
	}
	x.underWay.Remove(at)
	if kind == api.EvDrop {
		return api.OK, nil
	}
	s := x.find(mail.To)
	sent, err := s.take(mail, s.now)
	x.goes(mail.To, sent)
	return api.OK, err
}

// goes lets what a host sends be under way.
func (x *twin) goes(from int, mails []api.Mail) {
	for _, mail := range mails {
		x.seen = append(x.seen, string(mail.Data))
		if x.underWay.Len() < 2000 {
			x.underWay.PushBack(api.Mail{From: from, To: mail.To, Data: mail.Data})
		}
	}
}

func (x *twin) Len() int { return x.underWay.Len() }

func (x *twin) Now(host int) int64 { return x.find(host).now }

func (x *twin) Served(host int) []api.Served { return asked(x.find(host).served) }

func (x *twin) Log(host int) []api.Ran { return asked(x.find(host).log) }

func (x *twin) Got(host int) []api.Got { return asked(x.find(host).got) }

func (x *twin) Nodes(host int) []api.Node {
	if x.find(host).files == nil {
		return nil
	}
	return x.find(host).files.Nodes()
}

func (x *twin) Seen() [][]byte {
	var all [][]byte
	for _, text := range x.seen {
		all = append(all, []byte(text))
	}
	return all
}

func (x *twin) Terms() []api.Term { return x.sealer.Terms() }

func (x *twin) Entries() []api.Entry { return append([]api.Entry(nil), x.entries...) }

func (x *twin) Thefts() []api.Theft { return append([]api.Theft(nil), x.thefts...) }

// asked gives what a call answers; nothing, where there is none.
func asked[A any](call func() []A) []A {
	if call == nil {
		return nil
	}
	return call()
}

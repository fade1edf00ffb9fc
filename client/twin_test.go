package client_test

import (
	"bytes"
	"regexp"
	"slices"
	"strconv"
	"strings"

	"gangway/api"
	"gangway/apx"
	"gangway/cache"
	"gangway/frame"
	"gangway/krb"
	"gangway/mux"
	"gangway/priv"
	"gangway/rcp"
	"gangway/seal"
	"gangway/telopt"
	"gangway/ticket"
	"gangway/tree"
)

// twin is a client that is told in another way: it puts down all that it sends, and looks there for what was sent last.
type twin struct {
	sealer *seal.Sealer
	own    api.Entry
	main   string
	files  *tree.Tree
	cache  *cache.Cache
	wishes []*wish
	sent   []sending
}

// sending is something that a twin has sent: what it made anew has a Nonce that nothing ahead of it had.
type sending struct {
	wish  int
	nonce uint64
	m     api.Krb
	at    int64
	mail  api.Mail
	key   api.Key // of the answer
	call  api.Call
}

// wish is a want of a twin.
type wish struct {
	api.Got
	host   int
	ticks  int
	code   int
	exit   string
	pipe   *priv.Pipe
	mux    *mux.Mux
	reader *frame.Reader
	text   string // to be said, not handed to the mux yet
	lacks  int    // bytes that the mux has taken, and that aren't in a frame yet
	said   string // what the pipe hasn't taken
}

var (
	aWord    = regexp.MustCompile(`^[a-z][a-z0-9]{0,7}$`)
	aServer  = regexp.MustCompile(`^[A-Za-z0-9.+_-]{1,16}(/[A-Za-z0-9.+_-]{1,16}){0,2}@[A-Za-z0-9.+_-]{1,16}$`)
	aPath    = regexp.MustCompile(`^(/|(/[A-Za-z0-9._-]{1,12}){1,6})$`)
	aDot     = regexp.MustCompile(`/\.{1,2}(/|$)`)
	aLine    = regexp.MustCompile(`^[ -~]{0,80}$`)
	aCommand = regexp.MustCompile(`(?s)^[^\n]*$`)
	anExit   = regexp.MustCompile(`^(error )?(0|[1-9][0-9]{0,17})$`)
)

// newTwin gives a twin that wants nothing.
func newTwin(s *seal.Sealer, own api.Entry, main string, files *tree.Tree) *twin {
	return &twin{sealer: s, own: own, main: main, files: files, cache: cache.New()}
}

func (w *twin) Got() []api.Got {
	var list []api.Got
	for _, x := range w.wishes {
		list = append(list, x.Got)
	}
	return list
}

// right tells whether a want is right.
func right(w api.Want) bool {
	path := func(s string) bool { return aPath.MatchString(s) && !aDot.MatchString(s) }
	kind := map[int]bool{
		1: len(w.Lines) == 1 && len(w.Lines[0]) < 61 && aCommand.MatchString(w.Lines[0]), 2: len(w.Lines) < 5, 3: len(w.Lines) < 5, 4: path(w.Path) && path(w.To),
	}[w.Service]
	for _, line := range w.Lines {
		kind = kind && (aLine.MatchString(line) || w.Service == 1 || w.Service == 4)
	}
	return kind && aServer.MatchString(w.Server) && aWord.MatchString(w.Account)
}

func (w *twin) Want(want api.Want, to int) api.Errno {
	if !right(want) {
		return api.ErrArg
	}
	text := "login " + want.Account + " -\n"
	switch want.Service {
	case 1:
		text = "run " + want.Account + " " + want.Lines[0] + "\n"
	case 4:
		stream, e := rcp.Source(w.files, "root", want.Path, true)
		if e != api.OK {
			return e
		}
		text = "copy " + want.Account + " " + want.To + map[bool]string{true: " modes\n", false: " plain\n"}[want.Modes] + string(stream)
	default:
		if len(want.Lines) > 0 {
			text += strings.Join(want.Lines, "\r") + "\r"
		}
	}
	if slices.IndexFunc(w.wishes, func(x *wish) bool { return !x.Done }) >= 0 && w.busy() == 4 {
		return api.ErrFull
	}
	want.Lines = slices.Clone(want.Lines)
	w.wishes = append(w.wishes, &wish{Got: api.Got{Want: want}, host: to, text: text, code: 102})
	return api.OK
}

// busy tells how many wishes aren't done.
func (w *twin) busy() int {
	return len(slices.DeleteFunc(slices.Clone(w.wishes), func(x *wish) bool { return x.Done }))
}

func (w *twin) Tick(now int64) []api.Mail {
	var list []api.Mail
	if uint64(now) > 1<<39 {
		return nil
	}
	for i, x := range w.wishes {
		if x.Done {
			continue
		}
		x.ticks++
		switch {
		case x.ticks == 60:
			x.Done, x.Failed = true, x.code
		case x.Confirmed:
			list = append(list, x.mails(x.pipe.Boxes())...)
			list = append(list, x.mails(x.more())...)
		default:
			list = append(list, w.next(i, now)...)
		}
	}
	return list
}

// last gives the last thing that was sent for a wish, of those that are looked for.
func (w *twin) last(i int, is func(sending) bool) (sending, bool) {
	for _, s := range slices.Backward(w.sent) {
		if s.wish == i && is(s) {
			return s, true
		}
	}
	return sending{}, false
}

// next gives what is sent for a wish that has no session.
func (w *twin) next(i int, now int64) []api.Mail {
	server := w.wishes[i].Want.Server
	cred, found := w.cache.Find(w.main, now)
	kind := 1
	if found {
		kind = 2
		if other, found := w.cache.Find(server, now); found {
			kind, cred = 4, other
		}
	}
	old, had := w.last(i, func(sending) bool { return true })
	if had && old.m.Kind == kind && slices.Contains([]int64{0, 1, 2, 3, 4}, now-old.at) {
		return []api.Mail{{To: old.mail.To, Data: slices.Clone(old.mail.Data)}}
	}
	n := sending{wish: i, at: now, nonce: number<<32 + uint64(len(w.sent)) + 1}
	switch kind {
	case 1:
		n.m, n.key = api.Krb{Kind: 1, Client: w.own.Name, Server: w.main, Nonce: n.nonce, End: now + 1000, Flags: w.own.Flags}, w.own.Key
	case 2:
		a, _ := ticket.WriteAuth(api.Auth{Client: w.own.Name, Time: now, Nonce: n.nonce, Subkey: w.sealer.Fresh()})
		box, _ := w.sealer.Seal(cred.Grant.Key, 3, a)
		n.m, n.key = api.Krb{Kind: 2, Server: server, Nonce: n.nonce, End: now + 1000, Ticket: cred.Ticket, Sealed: box}, cred.Grant.Key
	case 4:
		n.m, n.call, _ = apx.Make(w.sealer, cred, now, n.nonce)
		n.mail.To = w.wishes[i].host
	}
	n.mail.Data, _ = krb.Write(n.m)
	if kind == 4 && w.wishes[i].Want.Service == 3 {
		n.mail.Data, _ = telopt.Write(api.Tel{Kind: 3, Option: 37, Data: append([]byte{0, 2, 2, 0}, n.mail.Data...)})
	}
	w.sent = append(w.sent, n)
	return []api.Mail{{To: n.mail.To, Data: slices.Clone(n.mail.Data)}}
}

// mails gives boxes as mails.
func (x *wish) mails(boxes [][]byte) []api.Mail {
	var list []api.Mail
	for _, box := range boxes {
		data, _ := krb.Write(api.Krb{Kind: 6, Nonce: x.Nonce, Sealed: box})
		list = append(list, api.Mail{To: x.host, Data: data})
	}
	return list
}

// more gives the boxes of what may go.
func (x *wish) more() [][]byte {
	n := min(4096-x.lacks, len(x.text))
	x.mux.Write(0, []byte(x.text[:n]))
	x.lacks += n
	x.text = x.text[n:]
	if x.text == "" {
		x.mux.Close(0)
	}
	for _, f := range x.mux.Out() {
		if f.Channel == 0 {
			x.lacks -= len(f.Body)
		}
		b, _ := frame.Write(f)
		x.said += string(b)
	}
	n = x.pipe.Open()
	for x.said != "" {
		first := x.said[:min(1000, len(x.said))]
		if x.pipe.Send([]byte(first)) != api.OK {
			break
		}
		x.said = x.said[len(first):]
	}
	return x.pipe.Boxes()[n:]
}

// opened gives the message that data are, of kind 0 if there is none.
func opened(data []byte) api.Krb {
	if m, e := krb.Read(data); e == api.OK {
		return m
	}
	if !bytes.HasPrefix(data, []byte{255}) {
		return api.Krb{}
	}
	parts, _ := telopt.NewReader().Feed(data)
	for _, p := range parts {
		if p.Kind == 3 && p.Option == 37 && len(p.Data) > 4 && (bytes.HasPrefix(p.Data, []byte{2, 2, 2, 1}) || bytes.HasPrefix(p.Data, []byte{2, 2, 2, 2})) {
			if m, e := krb.Read(p.Data[4:]); e == api.OK {
				return m
			}
		}
	}
	return api.Krb{}
}

func (w *twin) Take(data []byte, now int64) ([]api.Mail, error) {
	list, e := w.take(opened(data), now)
	if e != api.OK {
		return nil, &api.Fault{At: "take", Why: e}
	}
	return list, nil
}

// take takes a message.
func (w *twin) take(m api.Krb, now int64) ([]api.Mail, api.Errno) {
	if m.Kind != 3 && m.Kind < 5 {
		return nil, api.ErrForm
	}
	k := slices.IndexFunc(w.sent, func(s sending) bool { return s.nonce == m.Nonce })
	if k < 0 {
		return nil, api.ErrMatch
	}
	s := w.sent[k]
	x := w.wishes[s.wish]
	question, _ := w.last(s.wish, func(s sending) bool { return s.m.Kind != 4 })
	coming, _ := w.last(s.wish, func(s sending) bool { return s.m.Kind == 4 })
	switch {
	case m.Kind == 3 && question.nonce != m.Nonce, m.Kind == 5 && (coming.nonce != m.Nonce || x.Confirmed), m.Kind == 6 && (!x.Confirmed || x.Nonce != m.Nonce):
		return nil, api.ErrMatch
	case m.Kind == 3:
		return nil, w.grant(s, m, now)
	case m.Kind == 5:
		session, err := apx.Finish(w.sealer, s.call, m)
		if err != nil {
			return nil, err.(*api.Fault).Why.(api.Errno)
		}
		x.Key, x.Nonce, x.Confirmed, x.Sent = session.Key, m.Nonce, true, x.Want.Lines
		x.pipe, x.mux, x.reader = priv.New(w.sealer, x.Key, 0), mux.New(), frame.NewReader()
		return nil, api.OK
	case m.Kind == 7:
		x.code = m.Code
		return nil, api.OK
	}
	return x.data(m.Sealed)
}

// grant takes a ticket.
func (w *twin) grant(s sending, m api.Krb, now int64) api.Errno {
	text, e := w.sealer.Open(s.key, 5, m.Sealed)
	if e != api.OK {
		return e
	}
	g, e := ticket.ReadGrant(text)
	if e == api.OK && (g.Nonce != s.nonce || g.Server != s.m.Server) {
		e = api.ErrMatch
	}
	if e == api.OK {
		e = w.cache.Put(api.Cred{Client: w.own.Name, Ticket: m.Ticket, Grant: g}, now)
	}
	return e
}

// data takes a box.
func (x *wish) data(box []byte) ([]api.Mail, api.Errno) {
	came, answers, e := x.pipe.Receive(box)
	if e != api.OK {
		return nil, e
	}
	frames, e := x.reader.Feed(bytes.Join(came, nil))
	for _, f := range frames {
		if e == api.OK {
			e = x.mux.Take(f)
		}
	}
	over := e != api.OK
	told := [2]int{0, int(e)}
	if !over {
		over = true
		var put [4]string
		for channel := 1; channel < 4; channel++ {
			put[channel] = string(x.mux.Read(channel, 9999))
			over = over && x.mux.Ended(channel)
		}
		x.Out, x.Err, x.exit = slices.Concat(x.Out, []byte(put[1])), slices.Concat(x.Err, []byte(put[2])), x.exit+put[3]
		if found := anExit.FindStringSubmatch(x.exit); found != nil {
			told[min(1, len(found[1]))], _ = strconv.Atoi(found[2])
		}
	}
	if over && !x.Done {
		x.Done, x.Code, x.Failed = true, told[0], told[1]
	}
	return append(x.mails(answers), x.mails(x.more())...), api.OK
}

package server_test

import (
	"bytes"
	"regexp"
	"slices"
	"strconv"
	"strings"
	"testing"

	"gangway/api"
	"gangway/apx"
	"gangway/frame"
	"gangway/krb"
	"gangway/mux"
	"gangway/priv"
	"gangway/pty"
	"gangway/rcp"
	"gangway/replay"
	"gangway/seal"
	"gangway/server"
	"gangway/shell"
	"gangway/telopt"
	"gangway/tree"
)

// twin is a server of the rule DEFAULT, which is told in another way: a session is all the text that has come, and how far it has got in it.
type twin struct {
	sealer *seal.Sealer
	own    api.Entry
	files  *tree.Tree
	cache  *replay.Cache
	shell  *shell.Shell
	visits []*visit
}

// visit is a session of a twin.
type visit struct {
	api.Served
	*twin
	asked, answer []byte
	host          int
	end           int64
	quiet         int
	pipe          *priv.Pipe
	mux           *mux.Mux
	reader        *frame.Reader
	text          string // that has come on ChanIn, and isn't done
	mode          string // what becomes of it: nothing yet, login, copy, done
	terminal      *pty.Pty
	sink          *rcp.Sink
	code          int
	lacks         int    // bytes that channels have taken, and that aren't in a frame yet
	said          string // what the pipe hasn't taken
}

// newTwin gives a twin to which nobody came.
func newTwin(s *seal.Sealer, own api.Entry, files *tree.Tree) *twin {
	return &twin{sealer: s, own: own, files: files, cache: replay.New(begun), shell: shell.New(files)}
}

func (w *twin) Log() []api.Ran { return w.shell.Log() }

func (w *twin) Served() []api.Served {
	var list []api.Served
	for _, v := range w.visits {
		d := v.Served
		d.Lines = slices.Clone(d.Lines)
		list = append(list, d)
	}
	return list
}

func (w *twin) Open() int { return len(w.open()) }

// open gives those that are open.
func (w *twin) open() []*visit {
	return slices.DeleteFunc(slices.Clone(w.visits), func(v *visit) bool { return v.Over })
}

func (w *twin) Restart(now int64) {
	for _, v := range w.visits {
		v.Over = true
	}
	w.cache.Restart(now)
}

func (w *twin) Tick(now int64) []api.Mail {
	var list []api.Mail
	for _, v := range w.open() {
		v.quiet++
		heard := v.mode == "done" && v.lacks == 0 && v.said == "" && v.pipe.Open() == 0
		if heard || v.quiet > 39 || now >= v.end+11 {
			v.Over = true
			continue
		}
		for _, box := range v.pipe.Boxes() {
			list = append(list, v.mail(box))
		}
	}
	return list
}

// mail gives a box as a mail.
func (v *visit) mail(box []byte) api.Mail {
	data, _ := krb.Write(api.Krb{Kind: api.KrbData, Nonce: v.Nonce, Sealed: box})
	return api.Mail{To: v.host, Data: data}
}

func (w *twin) Take(data []byte, from int, now int64) ([]api.Mail, error) {
	if !bytes.HasPrefix(data, []byte{255}) {
		return w.take(data, from, now)
	}
	parts, e := telopt.NewReader().Feed(data)
	i := slices.IndexFunc(parts, func(x api.Tel) bool {
		return x.Kind == api.TelSub && x.Option == 37 && bytes.HasPrefix(x.Data, []byte{0, 2, 2, 0})
	})
	if e != api.OK || i < 0 {
		return nil, &api.Fault{At: "mail", Why: api.ErrForm}
	}
	list, err := w.take(parts[i].Data[4:], from, now)
	for i, mail := range list {
		yes := byte(2)
		if mail.Data[3] == api.KrbError {
			yes = 1
		}
		list[i].Data, _ = telopt.Write(api.Tel{Kind: api.TelSub, Option: 37, Data: append([]byte{2, 2, 2, yes}, mail.Data...)})
	}
	return list, err
}

// take takes a message.
func (w *twin) take(data []byte, from int, now int64) ([]api.Mail, error) {
	m, _ := krb.Read(data)
	open := w.open()
	i := slices.IndexFunc(open, func(v *visit) bool { return v.Nonce == m.Nonce })
	fault := func(why api.Errno) error { return &api.Fault{At: "mail", Why: why} }
	if m.Kind == api.KrbData && i < 0 {
		return nil, fault(api.ErrMatch)
	} else if m.Kind == api.KrbData {
		list, e := open[i].box(m.Sealed)
		if e != api.OK {
			return nil, fault(e)
		}
		return list, nil
	} else if m.Kind != api.KrbApReq {
		return nil, fault(api.ErrForm)
	}
	var err error
	if i >= 0 && bytes.Equal(open[i].asked, data) {
		return []api.Mail{{To: from, Data: slices.Clone(open[i].answer)}}, nil
	} else if len(open) > 5 {
		err = fault(api.ErrFull)
	} else if i >= 0 {
		err = fault(api.ErrMatch)
	}
	session, answer := api.Session{}, api.Krb{}
	if err == nil {
		session, answer, err = apx.Accept(w.sealer, w.own, w.cache, m, now)
	}
	if err != nil {
		answer = api.Krb{Kind: api.KrbError, Nonce: m.Nonce, Code: int(numberOf(err))}
	}
	sent, _ := krb.Write(answer)
	if err == nil {
		w.visits = append(w.visits, &visit{
			Served: api.Served{Key: session.Key, Client: session.Client, Nonce: m.Nonce}, twin: w, asked: slices.Clone(data), answer: slices.Clone(sent), host: from, end: session.End,
			pipe: priv.New(w.sealer, session.Key, 1), mux: mux.New(), reader: frame.NewReader(), terminal: pty.New(),
		})
	}
	return []api.Mail{{To: from, Data: sent}}, err
}

// box takes a box.
func (v *visit) box(box []byte) ([]api.Mail, api.Errno) {
	came, answers, e := v.pipe.Receive(box)
	if e != api.OK {
		return nil, e
	}
	var list []api.Mail
	for _, a := range answers {
		list = append(list, v.mail(a))
	}
	frames, e := v.reader.Feed(bytes.Join(came, nil))
	for _, f := range frames {
		if e == api.OK {
			e = v.mux.Take(f)
		}
	}
	if e != api.OK {
		v.Over = true
		return nil, e
	}
	v.quiet = 0
	v.text += string(v.mux.Read(0, 9999))
	v.goOn()
	for _, f := range v.mux.Out() {
		if f.Channel < 4 {
			v.lacks -= len(f.Body)
		}
		b, _ := frame.Write(f)
		v.said += string(b)
	}
	for {
		first := v.said[:min(1000, len(v.said))]
		if first == "" || v.pipe.Send([]byte(first)) != api.OK {
			return list, api.OK
		}
		v.said = v.said[len(first):]
		boxes := v.pipe.Boxes()
		list = append(list, v.mail(boxes[len(boxes)-1]))
	}
}

// put writes to a channel.
func (v *visit) put(channel int, text string) {
	if v.mux.Write(channel, []byte(text)) == api.OK {
		v.lacks += len(text)
	}
}

// done ends what a session does.
func (v *visit) done(exit string) {
	v.put(3, exit)
	for channel := 1; channel < 4; channel++ {
		v.mux.Close(channel)
	}
	v.mode = "done"
}

var (
	aLine  = regexp.MustCompile(`(?s)^([^\n]{0,80})\n(.*)$`)
	aRun   = regexp.MustCompile(`(?s)^run ([a-z][a-z0-9]{0,7}) (.*)$`)
	aLogin = regexp.MustCompile(`^login ([a-z][a-z0-9]{0,7}) -$`)
	aCopy  = regexp.MustCompile(`^copy ([a-z][a-z0-9]{0,7}) (/|(?:/[A-Za-z0-9._-]{1,12}){1,6}) (modes|plain)$`)
	aDot   = regexp.MustCompile(`/\.{1,2}(/|$)`)
	anExit = regexp.MustCompile(`^ *exit +[0-9]{1,3} *$`)
)

// goOn does what can be done of a session's text.
func (v *visit) goOn() {
	if v.mode == "" {
		v.begin()
	}
	switch ended := v.mux.Ended(0); v.mode {
	case "login":
		for v.text != "" && v.mode == "login" {
			v.key(v.text[0])
			v.text = v.text[1:]
		}
		if ended && v.mode == "login" {
			v.done(strconv.Itoa(v.code))
		}
	case "copy":
		e := v.sink.Feed([]byte(v.text))
		v.text = ""
		if ended {
			e = v.sink.Close()
		}
		if e != api.OK {
			v.done("error " + strconv.Itoa(int(e)))
		} else if ended {
			v.done("0")
		}
	}
}

// key takes a byte that is typed.
func (v *visit) key(c byte) {
	shown, lines := v.terminal.Feed([]byte{c})
	v.put(1, string(shown))
	for _, line := range lines {
		v.run(line, 1)
		if n, err := strconv.Atoi(strings.TrimSpace(strings.Replace(line, "exit", "", 1))); anExit.MatchString(line) && err == nil && n < 256 {
			v.done(strconv.Itoa(n))
		}
	}
}

// run runs a line, whose errors go on a channel.
func (v *visit) run(line string, errors int) {
	put := v.shell.Run(v.Account, line)
	v.Lines = append(v.Lines, line)
	v.put(1, string(put.Out))
	v.put(errors, string(put.Err))
	v.code = put.Code
}

// begin takes the first line, once it is whole.
func (v *visit) begin() {
	found := aLine.FindStringSubmatch(v.text)
	if found == nil {
		if len(v.text) > 80 {
			v.done("error 21")
		}
		return
	}
	v.text = found[2]
	run, login, copies := aRun.FindStringSubmatch(found[1]), aLogin.FindStringSubmatch(found[1]), aCopy.FindStringSubmatch(found[1])
	switch {
	case run != nil && v.may(run[1]):
		v.Service, v.Account = 1, run[1]
		v.run(run[2], 2)
		v.done(strconv.Itoa(v.code))
	case login != nil && v.may(login[1]):
		v.Service, v.Account, v.mode = 2, login[1], "login"
	case copies != nil && !aDot.MatchString(copies[2]) && v.may(copies[1]):
		v.Service, v.Account, v.mode = 4, copies[1], "copy"
		v.sink = rcp.NewSink(v.files, v.Account, copies[2], copies[3] == "modes")
	case run != nil, login != nil, copies != nil && !aDot.MatchString(copies[2]):
		v.done("error 90")
	default:
		v.done("error 21")
	}
}

// may tells whether the client may come as an account.
func (v *visit) may(account string) bool {
	text, e := v.files.Read("root", "/users/"+account+"/.k5login")
	if e != api.OK || strings.Trim(string(text), "\n") == "" {
		return v.Client == account+"@LAND"
	}
	return strings.Contains("\n"+string(text)+"\n", "\n"+v.Client+"\n")
}

// newTwinSite gives a site whose server is a twin.
func newTwinSite(t *testing.T, symbols bool, more ...api.Node) *site {
	t.Helper()
	s := newSite(t, symbols, more...)
	s.host = newTwin(s.sealer, s.own, s.files)
	return s
}

var _ host = (*server.Server)(nil)

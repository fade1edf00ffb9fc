package server

import (
	"bytes"
	"errors"

	"gangway/api"
	"gangway/apx"
	"gangway/krb"
	"gangway/link"
	"gangway/telopt"
)

// open gives the message that data are, and its bytes; of several bodies the first one counts. Where there is none it is of no kind.
func open(data []byte) (api.Krb, []byte) {
	bodies := link.Bodies(data, api.AuthIs)
	if len(bodies) == 0 {
		return api.Krb{}, nil
	}
	m, _ := krb.Read(bodies[0])
	return m, bodies[0]
}

// mails gives messages as mails to a host; as telnet's stream, if what they answer came so.
func mails(messages []api.Krb, host int, telnet bool) []api.Mail {
	var all []api.Mail
	for _, m := range messages {
		data, _ := krb.Write(m)
		if telnet {
			data, _ = telopt.Write(telopt.Reply(m.Kind != api.KrbError, data))
		}
		all = append(all, api.Mail{To: host, Data: data})
	}
	return all
}

// come answers who comes by a message, or once more who has come by just that.
func (s *Server) come(m api.Krb, text []byte, from int, now int64) (api.Krb, error) {
	if x := s.find(func(x *session) bool { return bytes.Equal(x.asked, text) }); x != nil {
		return x.answer, nil
	}
	known, answer, err := s.accept(m, now)
	var e api.Errno
	if errors.As(err, &e) {
		return api.Krb{Kind: api.KrbError, Nonce: m.Nonce, Code: int(e)}, err
	}
	x := newSession(s.sealer, known)
	x.asked, x.answer, x.host = bytes.Clone(text), answer, from
	x.takes = s.begin(x)
	s.sessions = append(s.sessions, x)
	return answer, nil
}

// accept looks whether there is room for who comes, and who it is.
func (s *Server) accept(m api.Krb, now int64) (api.Session, api.Krb, error) {
	switch {
	case s.Open() >= api.MaxSessions:
		return api.Session{}, api.Krb{}, atMail(api.ErrFull)
	case s.of(m.Nonce) != nil:
		return api.Session{}, api.Krb{}, atMail(api.ErrMatch)
	}
	return apx.Accept(s.sealer, s.own, s.came, m, now)
}

// goOn lets a session go on by a box of its, and gives what is sent for that, and to which host.
func (s *Server) goOn(m api.Krb) ([]api.Krb, int, error) {
	x := s.of(m.Nonce)
	if x == nil {
		return nil, 0, atMail(api.ErrMatch)
	}
	came, answers, e := x.Receive(m.Sealed)
	if e != api.OK { // the session stays: anybody may send what isn't its own
		return nil, 0, atMail(e)
	}
	if e := x.Hear(came); e != api.OK {
		x.drop()
		return nil, 0, atMail(e)
	}
	x.idle = 0
	x.goOn()
	return x.Messages(append(answers, x.Say()...)), x.host, nil
}

// of gives the open session of a Nonce; nil, if there is none.
func (s *Server) of(nonce uint64) *session {
	return s.find(func(x *session) bool { return x.did.Nonce == nonce })
}

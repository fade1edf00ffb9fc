package client

import (
	"errors"
	"slices"

	"gangway/api"
	"gangway/apx"
	"gangway/krb"
	"gangway/link"
	"gangway/ticket"
)

// message gives the message that data are; where there is none it is of no kind.
func message(data []byte) api.Krb {
	for _, text := range link.Bodies(data, api.AuthReply) {
		if m, e := krb.Read(text); e == api.OK {
			return m
		}
	}
	return api.Krb{}
}

// take takes a message.
func (c *Client) take(m api.Krb, now int64) ([]api.Mail, api.Errno) {
	switch m.Kind {
	case api.KrbRep:
		return nil, c.keep(m, now)
	case api.KrbApRep:
		return nil, c.confirm(m)
	case api.KrbData:
		return c.hear(m)
	case api.KrbError:
		return nil, c.refuse(m)
	}
	return nil, api.ErrForm
}

// keep keeps a ticket that was asked for.
func (c *Client) keep(m api.Krb, now int64) api.Errno {
	j := c.find(func(j *job) bool { return j.asked != nil && j.asked.nonce == m.Nonce })
	if j == nil {
		return api.ErrMatch
	}
	text, e := c.sealer.Open(j.asked.key, api.UseGrant, m.Sealed)
	if e != api.OK {
		return e
	}
	grant, e := ticket.ReadGrant(text)
	switch {
	case e != api.OK:
		return e
	case grant.Nonce != m.Nonce || grant.Server != j.asked.server:
		return api.ErrMatch
	}
	return c.creds.Put(api.Cred{Client: c.own.Name, Ticket: m.Ticket, Grant: grant}, now)
}

// confirm begins the session of a server that has shown who it is.
func (c *Client) confirm(m api.Krb) api.Errno {
	j := c.find(func(j *job) bool { return j.Link == nil && j.call != nil && j.call.Auth.Nonce == m.Nonce })
	if j == nil {
		return api.ErrMatch
	}
	known, err := apx.Finish(c.sealer, *j.call, m)
	var e api.Errno
	if errors.As(err, &e) {
		return e
	}
	j.begin(c.sealer, known)
	return api.OK
}

// hear takes a session's data, and gives what is sent for them, also if the job is done.
func (c *Client) hear(m api.Krb) ([]api.Mail, api.Errno) {
	j := c.find(func(j *job) bool { return j.Link != nil && j.got.Nonce == m.Nonce })
	if j == nil {
		return nil, api.ErrMatch
	}
	came, answers, e := j.Receive(m.Sealed)
	if e != api.OK {
		return nil, e
	}
	if e := j.Hear(came); e != api.OK {
		j.end(0, int(e))
	} else {
		j.read()
	}
	return j.mails(append(answers, j.say()...)), api.OK
}

// refuse remembers why something of a job's was refused.
func (c *Client) refuse(m api.Krb) api.Errno {
	j := c.find(func(j *job) bool { return slices.Contains(j.nonces, m.Nonce) })
	if j == nil {
		return api.ErrMatch
	}
	j.refused = m.Code
	return api.OK
}

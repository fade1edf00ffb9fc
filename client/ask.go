package client

import (
	"bytes"

	"gangway/api"
	"gangway/apx"
	"gangway/krb"
	"gangway/telopt"
	"gangway/ticket"
)

const (
	lasts   = 1000 // for how long a ticket is asked for
	isStale = 5    // after which time something isn't sent once more, but made anew
)

// goOn gives what is sent for a job that isn't done.
func (c *Client) goOn(j *job, now int64) []api.Mail {
	if j.Link != nil {
		boxes := j.Boxes()
		return j.mails(append(boxes, j.say()...))
	}
	first, mayAsk := c.creds.Find(c.main, now)
	cred, mayCome := c.creds.Find(j.got.Want.Server, now)
	switch {
	case !mayAsk:
		return j.send(api.KrbAsReq, now, func() (api.Mail, api.Errno) { return c.askFirst(j, now) })
	case !mayCome:
		return j.send(api.KrbTgsReq, now, func() (api.Mail, api.Errno) { return c.askBy(j, first, now) })
	}
	return j.send(api.KrbApReq, now, func() (api.Mail, api.Errno) { return c.come(j, cred, now) })
}

// send gives what was sent last once more, if that is of this kind, and not stale; else what is made anew. What can't be written isn't sent.
func (j *job) send(kind int, now int64, made func() (api.Mail, api.Errno)) []api.Mail {
	if j.sent.kind != kind || now < j.sent.at || now-j.sent.at >= isStale {
		mail, e := made()
		if e != api.OK {
			return nil
		}
		j.sent = letter{kind: kind, at: now, mail: mail}
	}
	mail := j.sent.mail
	mail.Data = bytes.Clone(mail.Data)
	return []api.Mail{mail}
}

// draw gives a Nonce that nothing had yet.
func (c *Client) draw() uint64 {
	c.nonce++
	return c.nonce
}

// askFirst asks for the ticket by which others are asked for.
func (c *Client) askFirst(j *job, now int64) (api.Mail, api.Errno) {
	m := api.Krb{Kind: api.KrbAsReq, Client: c.own.Name, Server: c.main, Nonce: c.draw(), End: now + lasts, Flags: c.own.Flags}
	return j.ask(m, c.own.Key)
}

// askBy asks for a ticket for a job's server, by the first one.
func (c *Client) askBy(j *job, first api.Cred, now int64) (api.Mail, api.Errno) {
	a := api.Auth{Client: first.Client, Time: now, Nonce: c.draw(), Subkey: c.sealer.Fresh()}
	text, _ := ticket.WriteAuth(a)
	box, _ := c.sealer.Seal(first.Grant.Key, api.UseAuth, text)
	m := api.Krb{Kind: api.KrbTgsReq, Server: j.got.Want.Server, Nonce: a.Nonce, End: now + lasts, Ticket: first.Ticket, Sealed: box}
	return j.ask(m, first.Grant.Key)
}

// ask gives a question, and remembers what its answer is held against.
func (j *job) ask(m api.Krb, key api.Key) (api.Mail, api.Errno) {
	data, e := krb.Write(m)
	if e != api.OK {
		return api.Mail{}, e
	}
	j.nonces = append(j.nonces, m.Nonce)
	j.asked = &question{nonce: m.Nonce, server: m.Server, key: key}
	return api.Mail{Data: data}, api.OK
}

// come comes to a job's server.
func (c *Client) come(j *job, cred api.Cred, now int64) (api.Mail, api.Errno) {
	m, call, _ := apx.Make(c.sealer, cred, now, c.draw())
	data, e := krb.Write(m)
	if j.got.Want.Service == api.SvcTelnet {
		data, e = telopt.Write(telopt.Is(data))
	}
	if e != api.OK { // telnet's stream has no room for the longest tickets
		return api.Mail{}, e
	}
	j.nonces = append(j.nonces, m.Nonce)
	j.call = &call
	return api.Mail{To: j.host, Data: data}, api.OK
}

package world

import (
	"bytes"
	"slices"

	"gangway/api"
	"gangway/krb"
)

const (
	maxMails    = 2000 // under way
	maxInjected = 5000 // bytes of a mail of the enemy's
)

// Do lets something happen.
func (w *World) Do(e api.Event) error {
	defer func() { w.events++ }() // what is refused is numbered, too
	if !w.has(e) {
		return fault("step", api.ErrStep)
	}
	m := w.at(e.Who)
	switch e.Kind {
	case api.EvWant:
		return fault("want", m.client.Want(e.Want, e.K))
	case api.EvTick:
		w.tick(e.Who)
	case api.EvDeliver:
		return w.deliver(w.takeOut(e.K))
	case api.EvDrop:
		w.takeOut(e.K)
	case api.EvCopy:
		return fault("step", w.post(w.underWay[e.K]))
	case api.EvInject:
		return fault("step", w.inject(e))
	case api.EvForge:
		return fault("step", w.forge(e))
	case api.EvRestart:
		m.server.Restart(m.now)
	case api.EvSteal:
		w.thefts = append(w.thefts, api.Theft{Name: w.entries[e.Who].Name, At: w.events})
	}
	return nil
}

// has tells whether an event is of a known kind, and all that it names is there.
func (w *World) has(e api.Event) bool {
	switch e.Kind {
	case api.EvWant:
		return w.at(e.Who).client != nil && w.at(e.K).server != nil
	case api.EvTick, api.EvForge, api.EvSteal:
		return w.isHost(e.Who)
	case api.EvDeliver, api.EvDrop, api.EvCopy:
		return e.K >= 0 && e.K < len(w.underWay)
	case api.EvInject:
		return w.isHost(e.Who) && w.isHost(e.K)
	case api.EvRestart:
		return w.at(e.Who).server != nil
	}
	return false
}

// tick lets a host's time go on.
func (w *World) tick(host int) {
	m := w.at(host)
	m.now++
	switch {
	case m.server != nil:
		w.send(host, m.server.Tick(m.now))
	case m.client != nil:
		w.send(host, m.client.Tick(m.now))
	}
}

// takeOut gives a mail, which is under way no longer.
func (w *World) takeOut(n int) api.Mail {
	mail := w.underWay[n]
	w.underWay = slices.Delete(w.underWay, n, n+1)
	return mail
}

// deliver lets a mail come to its host; what this sends is under way also beside an error.
func (w *World) deliver(mail api.Mail) error {
	m := w.at(mail.To)
	var answers []api.Mail
	var err error
	switch {
	case m.server != nil:
		answers, err = m.server.Take(mail.Data, mail.From, m.now)
	case m.client != nil:
		answers, err = m.client.Take(mail.Data, m.now)
	default:
		answers, err = w.answer(mail, m.now)
	}
	w.send(mail.To, answers)
	return err
}

// answer gives what the one that gives out tickets sends back.
func (w *World) answer(mail api.Mail, now int64) ([]api.Mail, error) {
	m, _ := krb.Read(mail.Data) // of no kind, if it is none
	if m.Kind != api.KrbAsReq && m.Kind != api.KrbTgsReq {
		return nil, fault("mail", api.ErrForm)
	}
	data, _ := krb.Write(w.main.Answer(m, now))
	return []api.Mail{{To: mail.From, Data: data}}, nil
}

// send lets all that a host sends be seen, and what there is room for be under way.
func (w *World) send(from int, mails []api.Mail) {
	for _, mail := range mails {
		w.seen = append(w.seen, mail.Data)
		mail.From = from
		w.post(mail)
	}
}

// post lets a mail be under way, behind all others, if there is room.
func (w *World) post(mail api.Mail) api.Errno {
	if len(w.underWay) >= maxMails {
		return api.ErrFull
	}
	w.underWay = append(w.underWay, mail)
	return api.OK
}

// inject lets a mail of the enemy's be under way.
func (w *World) inject(e api.Event) api.Errno {
	if len(w.underWay) < maxMails && len(e.Data) > maxInjected {
		return api.ErrLong
	}
	return w.post(api.Mail{From: e.K, To: e.Who, Data: bytes.Clone(e.Data)})
}

// forge seals data under a key that the enemy has.
func (w *World) forge(e api.Event) api.Errno {
	own := w.entries[e.Who]
	if !slices.ContainsFunc(w.thefts, func(t api.Theft) bool { return t.Name == own.Name }) {
		return api.ErrDenied
	}
	_, errno := w.sealer.Seal(own.Key, e.K, e.Data)
	return errno
}

// fault gives an error as one that was met at a place; nil, if it is none.
func fault(at string, e api.Errno) error {
	if e == api.OK {
		return nil
	}
	return &api.Fault{At: at, Why: e}
}

package probe

import (
	"bytes"
	"strings"

	"gangway/api"
)

// Copies of what has texts and bytes in it share nothing with it.

// CopiedLines gives a copy of lines.
func CopiedLines(lines []string) []string {
	var list []string
	for _, line := range lines {
		list = append(list, strings.Clone(line))
	}
	return list
}

// CopiedWant gives a copy of a want.
func CopiedWant(w api.Want) api.Want {
	w.Server, w.Account, w.Lines = strings.Clone(w.Server), strings.Clone(w.Account), CopiedLines(w.Lines)
	w.Path, w.To = strings.Clone(w.Path), strings.Clone(w.To)
	return w
}

// CopiedGot gives a copy of what became of a want.
func CopiedGot(g api.Got) api.Got {
	g.Want, g.Sent = CopiedWant(g.Want), CopiedLines(g.Sent)
	g.Out, g.Err = bytes.Clone(g.Out), bytes.Clone(g.Err)
	return g
}

// CopiedServed gives a copy of what a session has done.
func CopiedServed(d api.Served) api.Served {
	d.Client, d.Account, d.Lines = strings.Clone(d.Client), strings.Clone(d.Account), CopiedLines(d.Lines)
	return d
}

// CopiedRan gives a copy of a command that was run.
func CopiedRan(r api.Ran) api.Ran {
	r.Who, r.Line = strings.Clone(r.Who), strings.Clone(r.Line)
	return r
}

// CopiedNode gives a copy of a node.
func CopiedNode(n api.Node) api.Node {
	n.Path, n.Owner, n.Data = strings.Clone(n.Path), strings.Clone(n.Owner), bytes.Clone(n.Data)
	return n
}

// CopiedMail gives a copy of a mail.
func CopiedMail(m api.Mail) api.Mail {
	m.Data = bytes.Clone(m.Data)
	return m
}

// CopiedTerm gives a copy of what was sealed.
func CopiedTerm(m api.Term) api.Term {
	m.Plain = bytes.Clone(m.Plain)
	return m
}

// Eraser is a call that writes over a text; its methods write over all that has texts in it, but leave the texts of one byte, which are the same ones for all of a program.
type Eraser func(text string)

// Texts writes over texts.
func (e Eraser) Texts(texts ...string) {
	for _, s := range texts {
		if len(s) > 1 {
			e(s)
		}
	}
}

// Lines writes over lines, and over the list of them, its spare room too.
func (e Eraser) Lines(lines []string) {
	e.Texts(lines...)
	lines = lines[:cap(lines)]
	for i := range lines {
		lines[i] = "x"
	}
}

// Want writes over a want.
func (e Eraser) Want(w api.Want) {
	e.Texts(w.Server, w.Account, w.Path, w.To)
	e.Lines(w.Lines)
}

// Got writes over what became of a want.
func (e Eraser) Got(g api.Got) {
	e.Want(g.Want)
	e.Lines(g.Sent)
	Spoil(g.Out)
	Spoil(g.Err)
}

// Served writes over what a session has done.
func (e Eraser) Served(d api.Served) {
	e.Texts(d.Client, d.Account)
	e.Lines(d.Lines)
}

// Ran writes over a command that was run.
func (e Eraser) Ran(r api.Ran) { e.Texts(r.Who, r.Line) }

// Node writes over a node.
func (e Eraser) Node(n api.Node) {
	e.Texts(n.Path, n.Owner)
	Spoil(n.Data)
}

// Spoiled gives copies of what is in a list, each made when those ahead of it have been written over; then the list is, with its spare room.
func Spoiled[A any](list []A, copied func(A) A, spoil func(A)) []A {
	var kept []A
	for _, a := range list {
		kept = append(kept, copied(a))
		spoil(a)
	}
	clear(list[:cap(list)])
	return kept
}

// SpoiledMails gives Spoiled's copies of mails.
func SpoiledMails(list []api.Mail) []api.Mail {
	return Spoiled(list, CopiedMail, func(m api.Mail) { Spoil(m.Data) })
}

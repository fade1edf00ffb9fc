package probe_test

import (
	"fmt"
	"slices"
	"strings"
	"testing"

	"gangway/api"
	"gangway/probe"
)

// got gives what has texts, lines and bytes in it.
func got() api.Got {
	w := api.Want{Service: 1, Server: "server", Account: "account", Lines: []string{"line", "other"}, Path: "/path", To: "/to", Modes: true}
	return api.Got{Want: w, Done: true, Code: 1, Failed: 2, Out: []byte("out"), Err: []byte("err"), Key: api.Key{3}, Nonce: 4, Sent: []string{"sent"}, Confirmed: true}
}

// isApart looks whether a copy's copy stays what was copied first, when the copy is written over.
func isApart[A any](t *testing.T, first A, copied func(A) A, spoil func(A)) {
	t.Helper()
	want := fmt.Sprintf("%+v", first)
	mine := copied(first) // in memory that can be written over
	kept := copied(mine)
	spoil(mine)
	if fmt.Sprintf("%+v", kept) != want || fmt.Sprintf("%+v", mine) == want {
		t.Errorf("%+v of %+v, not %s", kept, mine, want)
	}
}

// TestCopied: a copy is the same in all fields, and shares nothing with what was copied.
func TestCopied(t *testing.T) {
	isApart(t, got(), probe.CopiedGot, eraser.Got)
	isApart(t, got().Want, probe.CopiedWant, eraser.Want)
	isApart(t, []string{"line", "other"}, probe.CopiedLines, eraser.Lines)
	isApart(t, api.Served{Key: api.Key{1}, Client: "client", Nonce: 2, Service: 3, Account: "account", Lines: []string{"line"}, Over: true}, probe.CopiedServed, eraser.Served)
	isApart(t, api.Ran{Who: "who", Line: "line", Code: 5}, probe.CopiedRan, eraser.Ran)
	isApart(t, probe.File("/f", "owner", 60, "data"), probe.CopiedNode, eraser.Node)
	isApart(t, api.Term{Key: api.Key{1}, Usage: 2, Plain: []byte("plain")}, probe.CopiedTerm, func(m api.Term) { probe.Spoil(m.Plain) })
	isApart(t, api.Mail{From: 1, To: 2, Data: []byte("data")}, probe.CopiedMail, func(m api.Mail) { probe.Spoil(m.Data) })
	if list := probe.CopiedLines(nil); len(list) != 0 {
		t.Errorf("%q", list)
	}
}

// TestEraser: all texts, lines and bytes are written over, but texts of one byte.
func TestEraser(t *testing.T) {
	var told []string
	e := probe.Eraser(func(text string) { told = append(told, text) })
	g := got()
	lines := append(make([]string, 0, 3), "line", "o")
	g.Want.Lines = lines
	e.Got(g)
	e.Served(api.Served{Client: "client", Account: "a", Lines: []string{"ran"}})
	e.Ran(api.Ran{Who: "who", Line: ""})
	n := probe.File("/f", "owner", 60, "data")
	e.Node(n)
	if want := strings.Fields("server account /path /to line sent client ran who /f owner"); !slices.Equal(told, want) {
		t.Errorf("%q, not %q", told, want)
	}
	if !slices.Equal(lines[:3], []string{"x", "x", "x"}) || g.Sent[0] != "x" || string(g.Out) != "\xaa\xaa\xaa" || string(g.Err) != "\xaa\xaa\xaa" || string(n.Data) != "\xaa\xaa\xaa\xaa" {
		t.Errorf("%q, %+v, %+v", lines[:3], g, n)
	}
}

// TestSpoiledMails: the copies are the mails, but where two of these share memory; nothing is left of the mails.
func TestSpoiledMails(t *testing.T) {
	data, all := probe.Roomy("data")
	list := append(make([]api.Mail, 0, 3), api.Mail{From: 1, To: 2, Data: data}, api.Mail{From: 3, To: 4, Data: []byte("more")})
	kept := probe.SpoiledMails(list)
	if !probe.SameMails(kept, []api.Mail{{From: 1, To: 2, Data: []byte("data")}, {From: 3, To: 4, Data: []byte("more")}}) {
		t.Errorf("%+v", kept)
	}
	if string(all) != strings.Repeat("\xaa", len(all)) || list[0].To != 0 || list[1].Data != nil {
		t.Errorf("%q, %+v", all, list[:3])
	}
	shared := []byte("data")
	if kept := probe.SpoiledMails([]api.Mail{{Data: shared}, {Data: shared}}); string(kept[1].Data) == "data" {
		t.Errorf("%+v", kept)
	}
	if kept := probe.SpoiledMails(nil); len(kept) != 0 {
		t.Errorf("%+v", kept)
	}
}

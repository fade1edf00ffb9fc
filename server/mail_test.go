package server_test

import (
	"bytes"
	"slices"
	"strings"
	"testing"

	"gangway/api"
	"gangway/krb"
	"gangway/probe"
	"gangway/telopt"
)

// nothing looks whether data are refused as no message, and nothing is sent.
func (s *site) nothing(t *testing.T, data string) {
	t.Helper()
	if list, err := s.Take([]byte(data), 3, s.now); len(list) != 0 || !probe.IsFault(err, "mail", api.ErrForm) {
		t.Errorf("%q: %+v, %v", data, list, err)
	}
}

// part gives a part of telnet's stream as bytes.
func part(t *testing.T, x api.Tel) string {
	t.Helper()
	b, e := telopt.Write(x)
	return string(must(t, b, e))
}

// is gives a message as telnet's stream tells it.
func is(t *testing.T, message []byte) string {
	t.Helper()
	return part(t, telopt.Is(message))
}

// others gives messages of the kinds that no server takes.
func others(t *testing.T) []string {
	t.Helper()
	var list []string
	for _, m := range []api.Krb{
		{Kind: api.KrbAsReq, Client: "ann@LAND", Server: "host/s1@LAND", Nonce: 1}, {Kind: api.KrbTgsReq, Server: "host/s1@LAND", Nonce: 1},
		{Kind: api.KrbRep, Nonce: 1}, {Kind: api.KrbApRep, Nonce: 1}, {Kind: api.KrbError, Nonce: 1, Code: 66},
	} {
		b, e := krb.Write(m)
		list = append(list, string(must(t, b, e)))
	}
	return list
}

// TestNoMessage: P24.2, what is neither a message nor telnet's stream with one, or is one of another kind, is refused, and nothing is sent; nothing has changed.
func TestNoMessage(t *testing.T) {
	for _, symbols := range kinds {
		s, twin := newSite(t, symbols), newSite(t, symbols)
		for text := range probe.Texts("\x00\x1f\x25\x02\xf0\xfa\xff", 5) {
			s.nothing(t, text)
		}
		g, same := s.comes(t, "ann@LAND"), twin.comes(t, "ann@LAND") // of the Nonce 1, which all below have
		asked := string(g.asked)
		for _, message := range others(t) {
			s.nothing(t, message)
			s.nothing(t, is(t, []byte(message)))
		}
		for _, text := range []string{
			asked + "x", asked[:len(asked)-1], "x" + asked, "\x00" + asked, asked + asked, "x" + is(t, g.asked), asked + is(t, g.asked),
			"\xff" + asked, "\xff\xff" + asked,
		} {
			s.nothing(t, text)
		}
		if !probe.Alike(s.sealer, twin.sealer) || s.Open() != 1 {
			t.Errorf("%d drawn, %d open", s.sealer.Drawn(), s.Open())
		}
		g.types(t, "run ann whoami\n")
		g.puts(t, "ann\n", "", "0")
		same.types(t, "run ann whoami\n")
	}
}

// TestNoStream: P24.2, telnet's stream with an error, even behind the message, or with no part that is Is of one, is refused.
func TestNoStream(t *testing.T) {
	s := newSite(t, true)
	asked := s.asks(t, "ann@LAND", begun+1000, 77, 3).asked
	said := is(t, asked)
	for _, text := range []string{
		"\xff\xf1", "\xff\xff", "\xff\xfb\x25", "\xff\xf1" + string(asked), part(t, telopt.Send()), part(t, telopt.Reply(true, asked)), part(t, telopt.Reply(false, asked)),
		said[:len(said)-1], said[:len(said)-2], said + "\xff\x00", said + "\xff\xfa\x25\xff\x01", "\xff\x01" + said, said + "\xff\xfa\x01" + strings.Repeat("x", 3001),
		part(t, api.Tel{Kind: api.TelSub, Option: 36, Data: telopt.Is(asked).Data}), part(t, api.Tel{Kind: api.TelSub, Option: 37, Data: append([]byte{0, 2, 3, 0}, asked...)}),
		is(t, nil), is(t, asked[1:]), is(t, append([]byte{31}, asked...)), is(t, []byte(said)), is(t, nil) + said, part(t, telopt.Is(asked[1:])) + said,
	} {
		s.nothing(t, text)
	}
	if s.Open() != 0 {
		t.Errorf("%+v", s.Served())
	}
	one(t, s.takes(t, []byte(said), 3), 3)
}

// TestTelnet: P24.2, a message in telnet's stream, whatever else is in that, is answered in one, too: as accepted, but where the answer is an error.
func TestTelnet(t *testing.T) {
	for _, symbols := range kinds {
		for _, text := range [][2]string{
			{}, {"\xff\xfb\x25"}, {"\xff\xf1\xff\xffdata"}, {"\xff\xfd\x25" + part(t, telopt.Send()) + part(t, telopt.Reply(true, []byte("no")))},
			{"", "data"}, {"", "\xff"}, {"", "\xff\xfa\x25\x00"}, {"", is(t, []byte("another"))}, {"", "\xff\xf9\xff\xfc\x07"},
			{part(t, api.Tel{Kind: api.TelSub, Option: 38, Data: telopt.Is(nil).Data}), part(t, telopt.Send())},
		} {
			s, bare := newSite(t, symbols), newSite(t, symbols)
			g, same := s.asks(t, "ann@LAND", begun+1000, 77, 5), bare.asks(t, "ann@LAND", begun+1000, 77, 5)
			want := one(t, bare.takes(t, same.asked, 5), 5)
			stream := []byte(text[0] + is(t, g.asked) + text[1])
			for range 2 {
				if got := one(t, s.takes(t, stream, 5), 5); string(got) != part(t, telopt.Reply(true, want)) {
					t.Errorf("%q: %q, not %q", stream, got, want)
				}
			}
			if got := one(t, s.takes(t, g.asked, 5), 5); !bytes.Equal(got, want) { // the message is the same
				t.Errorf("%q, not %q", got, want)
			}
			if got := one(t, bare.takes(t, stream, 5), 5); string(got) != part(t, telopt.Reply(true, want)) {
				t.Errorf("%q, not %q", got, want)
			}
			g.finish(t, want)
			g.types(t, "login ann -\nexit 7\r")
			g.puts(t, "exit 7\r\n", "", "7")
			g.did(t, api.Served{Service: api.SvcLogin, Account: "ann", Lines: []string{"exit 7"}})
		}
	}
}

// TestTelnetErrors: P24.2, an error is told in telnet's stream, too, as not accepted.
func TestTelnetErrors(t *testing.T) {
	refuses := func(s *site, message []byte, at string, why api.Errno) {
		t.Helper()
		asked, e := krb.Read(message)
		must(t, 0, e)
		b, e := krb.Write(api.Krb{Kind: api.KrbError, Nonce: asked.Nonce, Code: int(why)})
		list, err := s.Take([]byte(is(t, message)), 4, s.now)
		if want := part(t, telopt.Reply(false, must(t, b, e))); string(one(t, list, 4)) != want || !probe.IsFault(err, at, why) {
			t.Errorf("%+v, %v, not %q", list, err, want)
		}
	}
	for _, symbols := range kinds {
		s := newSite(t, symbols)
		s.comes(t, "ann@LAND")
		refuses(s, s.asks(t, "ann@LAND", begun+1000, 1, 4).asked, "mail", api.ErrMatch)
		refuses(s, s.asks(t, "ann@LAND", begun-20, 77, 4).asked, "ap", api.ErrExpired)
		for range 5 {
			s.comes(t, "ann@LAND")
		}
		refuses(s, s.asks(t, "ann@LAND", begun+1000, 77, 4).asked, "mail", api.ErrFull)
	}
}

// TestTelnetData: P24.2, what is answered to any message in telnet's stream is told in one; where it goes is the same.
func TestTelnetData(t *testing.T) {
	s, bare := newSite(t, true), newSite(t, true)
	g, same := s.comes(t, "ann@LAND"), bare.comes(t, "ann@LAND")
	for _, x := range []*guest{g, same} {
		must(t, 0, x.mux.Write(api.ChanIn, []byte("run ann whoami\n")))
	}
	want := bare.takes(t, same.says(t)[0], 99)
	for i := range want {
		want[i].Data = []byte(part(t, telopt.Reply(true, want[i].Data)))
	}
	said := g.says(t)[0]
	if got := s.takes(t, []byte(is(t, said)), 99); !probe.SameMails(got, want) || len(got) != 2 || got[0].To != 5 {
		t.Errorf("%+v, not %+v", got, want)
	}
	b, e := krb.Write(api.Krb{Kind: api.KrbData, Nonce: 9})
	if list, err := s.Take([]byte(is(t, must(t, b, e))), 3, begun); len(list) != 0 || !probe.IsFault(err, "mail", api.ErrMatch) {
		t.Errorf("%+v, %v", list, err)
	}
}

// inBox gives what is in a message of a session: its side, its number, up to which number all has come, and its data.
func (g *guest) inBox(t *testing.T, data []byte) [4]string {
	t.Helper()
	m, e := krb.Read(data)
	must(t, m, e)
	plain, e := g.sealer.Open(g.key, api.UsePriv, m.Sealed)
	return split(t, must(t, plain, e))
}

// TestWrongData: P24.2, what isn't the session's, or isn't sealed as it must be, is refused, nothing is sent, and the session goes on as if it hadn't come.
func TestWrongData(t *testing.T) {
	for _, symbols := range kinds {
		s := newSite(t, symbols)
		g, other := s.comes(t, "ann@LAND"), s.comes(t, "bob@LAND")
		must(t, 0, g.mux.Write(api.ChanIn, []byte("login ann -\nwhoami\r")))
		first := g.says(t)
		list := s.takes(t, first[0], 99)
		late := g.hears(t, list[1].Data)
		sealed := func(key api.Key, use int, plain string) []byte {
			box, e := s.sealer.Seal(key, use, []byte(plain))
			return g.data(t, must(t, box, e))
		}
		inside := func(side, number, upTo uint64, text string) string {
			return probe.Field(41, probe.Num(side)) + probe.Field(42, probe.Num(number)) + probe.Field(43, probe.Num(upTo)) + probe.Field(44, text)
		}
		frame := "\x00\x00\x01x"
		otherBox, e := krb.Read(other.sends(t, frame)[0])
		must(t, 0, e)
		moved, e := krb.Read(first[0])
		must(t, 0, e)
		moved.Nonce = 3
		data, e := krb.Write(moved)
		s.refuses(t, must(t, data, e), "mail", api.ErrMatch, false)           // of no session's Nonce
		s.refuses(t, g.data(t, otherBox.Sealed), "mail", api.ErrSeal, false)  // of another session
		s.refuses(t, g.data(t, nil), "mail", api.ErrSeal, false)              // of nobody
		s.refuses(t, g.data(t, moved.Sealed[1:]), "mail", api.ErrSeal, false) // not whole
		s.refuses(t, sealed(api.Key{}, api.UsePriv, inside(0, 2, 0, frame)), "mail", api.ErrSeal, false)
		s.refuses(t, sealed(g.key, api.UseSafe, inside(0, 2, 0, frame)), "mail", api.ErrSeal, false)
		s.refuses(t, sealed(g.key, api.UsePriv, "no fields"), "mail", api.ErrForm, false)
		s.refuses(t, sealed(g.key, api.UsePriv, inside(2, 2, 0, frame)), "mail", api.ErrForm, false)
		s.refuses(t, sealed(g.key, api.UsePriv, inside(1, 2, 0, frame)), "mail", api.ErrMatch, false)
		s.refuses(t, list[0].Data, "mail", api.ErrMatch, false) // the server's own
		s.refuses(t, list[1].Data, "mail", api.ErrMatch, false)
		g.goesOn(t, late)
		g.types(t, "exit 3\r")
		g.puts(t, "whoami\r\nann\nexit 3\r\n", "", "3")
		other.did(t, api.Served{})
	}
}

// TestBoxes: P24.2, first what the pipe answers is sent, then the boxes that are new, to the host from which the session came; what comes again is answered again, but does nothing.
func TestBoxes(t *testing.T) {
	for _, symbols := range kinds {
		s := newSite(t, symbols)
		g := s.comes(t, "ann@LAND")
		must(t, 0, g.mux.Write(api.ChanIn, []byte("run ann whoami\n")))
		said := g.says(t)[0]
		list := s.takes(t, said, 99)
		frames := "\x04\x00\x04\x01\x00\x00\x0f" + "\x01\x00\x04ann\n" + "\x04\x00\x04\x02\x01\x00\x00" + "\x04\x00\x04\x02\x02\x00\x00" + "\x03\x00\x010" + "\x04\x00\x04\x02\x03\x00\x00"
		if len(list) != 2 || list[0].To != 5 || list[1].To != 5 || list[0].From != 0 || list[1].From != 0 ||
			g.inBox(t, list[0].Data) != [4]string{"\x01", "", "\x01", ""} || g.inBox(t, list[1].Data) != [4]string{"\x01", "\x01", "", frames} {
			t.Errorf("%+v", list)
		}
		again := s.takes(t, said, 99)
		if g.inBox(t, one(t, again, 5)) != [4]string{"\x01", "", "\x01", ""} || len(s.Log()) != 1 {
			t.Errorf("%+v", again)
		}
		mine := g.hears(t, list[1].Data)
		if got := s.takes(t, mine[0], 99); len(got) != 0 { // it only acknowledges
			t.Errorf("%+v", got)
		}
		if got := s.takes(t, mine[1], 99); g.inBox(t, one(t, got, 5)) != [4]string{"\x01", "", "\x02", ""} {
			t.Errorf("%+v", got)
		}
	}
}

// TestPieces: P24.2, what is said goes over the pipe in pieces of a thousand bytes, whatever frames are in them.
func TestPieces(t *testing.T) {
	big := strings.Repeat("0123456789", 100)
	s := newSite(t, true, probe.File("/f", "ann", 60, big))
	g := s.comes(t, "ann@LAND")
	must(t, 0, g.mux.Write(api.ChanIn, []byte("run ann cat /f\n")))
	list := s.takes(t, g.says(t)[0], 99)
	text := "\x04\x00\x04\x01\x00\x00\x0f" + "\x01\x02\x00" + big[:512] + "\x01\x01\xe8" + big[512:] +
		"\x04\x00\x04\x02\x01\x00\x00" + "\x04\x00\x04\x02\x02\x00\x00" + "\x03\x00\x010" + "\x04\x00\x04\x02\x03\x00\x00"
	if len(list) != 3 || g.inBox(t, list[1].Data) != [4]string{"\x01", "\x01", "", text[:1000]} || g.inBox(t, list[2].Data) != [4]string{"\x01", "\x02", "", text[1000:]} {
		t.Errorf("%+v", list)
	}
	for _, mail := range list[1:] {
		g.hears(t, mail.Data)
	}
	g.puts(t, big, "", "0")
}

// TestPipeIsFull: P24.2, what the pipe doesn't take waits, and goes, together, once it takes more; in order.
func TestPipeIsFull(t *testing.T) {
	s := newSite(t, true)
	g := s.comes(t, "ann@LAND")
	must(t, 0, g.mux.Write(api.ChanIn, []byte("login ann -\n")))
	var answers []api.Mail
	for i := range 12 {
		must(t, 0, g.mux.Write(api.ChanIn, []byte{byte('a' + i)}))
		said := g.says(t)[0]
		list := s.takes(t, said, 99)
		if want := map[bool]int{true: 2, false: 1}[i < 8]; len(list) != want {
			t.Fatalf("%d: %+v", i, list)
		}
		answers = append(answers, list[1:]...)
		acknowledge(t, g, list[0].Data)
	}
	credit := "\x04\x00\x04\x01\x00\x00\x01"
	for i, mail := range answers[1:] {
		if got := g.inBox(t, mail.Data); got != [4]string{"\x01", string(rune(i + 2)), "", credit + "\x01\x00\x01" + string(rune('b'+i))} {
			t.Errorf("%d: %q", i, got)
		}
	}
	if list := s.Tick(begun); !slices.EqualFunc(list, answers, func(a, b api.Mail) bool { return a.To == b.To && bytes.Equal(a.Data, b.Data) }) {
		t.Errorf("%+v, not %+v", list, answers)
	}
	mine := g.hears(t, answers[0].Data)
	list := s.takes(t, mine[0], 99)
	rest := ""
	for _, c := range "ijkl" {
		rest += credit + "\x01\x00\x01" + string(c)
	}
	if got := g.inBox(t, one(t, list, 5)); got != [4]string{"\x01", "\x09", "", rest} {
		t.Errorf("%q, not %q", got, rest)
	}
	for _, mail := range append(answers[1:], list...) {
		g.hears(t, mail.Data)
	}
	g.puts(t, "abcdefghijkl", "", "")
}

// acknowledge lets a guest hear no more of a message than that something of its has come.
func acknowledge(t *testing.T, g *guest, data []byte) {
	t.Helper()
	m, e := krb.Read(data)
	must(t, m, e)
	came, answers, e := g.pipe.Receive(m.Sealed)
	if e != api.OK || len(came) != 0 || len(answers) != 0 {
		t.Fatalf("%q, %q, %v", came, answers, e)
	}
}

// TestBrokenStream: P24.2, an error of the frames, or of the channels, ends the session, and only that one; nothing is sent, and nothing is done of what came with it.
func TestBrokenStream(t *testing.T) {
	line := "\x00\x00\x0frun ann whoami\n"
	end := "\x04\x00\x04\x02\x00\x00\x00"
	for _, c := range []struct {
		pieces []string
		why    api.Errno
	}{
		{[]string{"\x05"}, api.ErrChannel}, {[]string{line + "\xff"}, api.ErrChannel}, {[]string{"\x01\x02\x01"}, api.ErrLong}, {[]string{line, "\x00\x02", "\x01"}, api.ErrLong},
		{[]string{"\x04\x00\x00"}, api.ErrForm}, {[]string{line + "\x04\x00\x04\x03\x01\x00\x00"}, api.ErrForm}, {[]string{"\x04\x00\x04\x01\x04\x00\x00"}, api.ErrForm},
		{[]string{"\x04\x00\x04\x01\x01\x00\x01"}, api.ErrCredit}, {[]string{line, "\x04\x00\x04\x01\x01\x00\x05"}, api.ErrCredit},
		{[]string{end + end}, api.ErrClosed}, {[]string{end, "\x00\x00\x01x"}, api.ErrClosed}, {[]string{end + line}, api.ErrClosed},
		{[]string{"\x04\x00\x04\x02\x02\x00\x00", line, "\x02\x00\x01x"}, api.ErrClosed},
		{[]string{strings.Repeat("\x01\x00\xff"+strings.Repeat("x", 255), 3), "\x01\x01\x04" + strings.Repeat("x", 260)}, api.ErrCredit},
	} {
		s := newSite(t, true)
		other, g := s.comes(t, "bob@LAND"), s.comes(t, "ann@LAND")
		for _, piece := range c.pieces[:len(c.pieces)-1] {
			s.takes(t, g.sends(t, piece)[0], 99)
		}
		log := s.Log()
		did := api.Served{Over: true}
		if len(log) > 0 {
			did = api.Served{Service: api.SvcRun, Account: "ann", Lines: []string{"whoami"}, Over: true}
		}
		last := g.sends(t, c.pieces[len(c.pieces)-1])[0]
		s.refuses(t, last, "mail", c.why, false)
		g.did(t, did)
		s.refuses(t, last, "mail", api.ErrMatch, false)
		s.refuses(t, g.asked, "ap", api.ErrReplay, true)
		if list := s.Tick(begun); len(list) != 0 || s.Open() != 1 || !slices.Equal(s.Log(), log) {
			t.Errorf("%q: %+v, %d, %+v", c.pieces, list, s.Open(), s.Log())
		}
		other.types(t, "run bob whoami\n")
		other.puts(t, "bob\n", "", "0")
	}
}

// cut lets the frames of a run come in boxes as they are cut, and looks whether it is run.
func cut(t *testing.T, cuts func(frames string) []string) {
	t.Helper()
	g := newSite(t, true).comes(t, "ann@LAND")
	must(t, 0, g.mux.Write(api.ChanIn, []byte("run ")))
	must(t, 0, g.mux.Write(api.ChanOut, []byte("any"))) // which nobody reads
	frames := g.frames(t) + "\x00\x00\x00"
	must(t, 0, g.mux.Write(api.ChanIn, []byte("ann whoami\n")))
	must(t, 0, g.mux.Close(api.ChanIn))
	var later []api.Mail
	for _, piece := range cuts(frames + g.frames(t)) {
		for _, data := range g.sends(t, piece) {
			list := g.takes(t, data, 99)
			acknowledge(t, g, list[0].Data)
			later = append(later, list[1:]...)
		}
	}
	for _, mail := range later {
		g.goesOn(t, g.hears(t, mail.Data)) // not ahead of the last piece: what the guest says then would stand between two of them
	}
	g.puts(t, "ann\n", "", "0")
}

// TestFramesInPieces: P24.2, frames may come in boxes however they are cut.
func TestFramesInPieces(t *testing.T) {
	for i := range 38 {
		cut(t, func(frames string) []string { return []string{frames[:i], frames[i:]} })
	}
	cut(t, func(frames string) []string { return strings.Split(frames, "") })
}

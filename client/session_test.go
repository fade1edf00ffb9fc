package client_test

import (
	"strconv"
	"strings"
	"testing"

	"gangway/api"
	"gangway/frame"
	"gangway/probe"
	"gangway/rcp"
	"gangway/tlv"
)

// typed gives a want of a login that types nothing.
func typed() api.Want { return api.Want{Service: api.SvcLogin, Server: blue, Account: "ann"} }

// frames gives the bytes of frames.
func frames(t *testing.T, list ...api.Frame) string {
	t.Helper()
	text := ""
	for _, f := range list {
		b, e := frame.Write(f)
		if e != api.OK {
			t.Fatalf("%+v: %v", f, e)
		}
		text += string(b)
	}
	return text
}

// piece gives a frame of a channel.
func piece(channel int, text string) api.Frame {
	return api.Frame{Channel: channel, Body: []byte(text)}
}

// end gives a frame that ends a channel.
func end(channel int) api.Frame {
	return api.Frame{Channel: api.ChanControl, Body: []byte{2, byte(channel), 0, 0}}
}

// allEnds gives the frames that end all the server's channels, in an order.
func allEnds() []api.Frame { return []api.Frame{end(api.ChanErr), end(api.ChanExit), end(api.ChanOut)} }

// TestDataErrors: P25.4, what isn't the next data of a session's is refused, by the first error that applies; nothing has changed.
func TestDataErrors(t *testing.T) {
	for _, symbols := range kinds {
		s := newSite(symbols)
		s.wants(t, run(blue, "ls"))
		s.asks(t, api.KrbAsReq)
		s.asks(t, api.KrbTgsReq)
		f, answer := s.accepts(t, blue, s.sends(t, api.KrbApReq, place))
		f.Write(api.ChanOut, []byte("hi"))
		hi := f.Messages(f.Say())[0]
		s.denies(t, hi, api.ErrMatch) // there is no session yet
		s.gets(t, answer)
		for _, nonce := range []uint64{0, before + 1, before + 2, before + 4, 1 << 63} {
			m := hi
			m.Nonce = nonce
			s.denies(t, m, api.ErrMatch)
		}
		spoilt := append([]byte(nil), hi.Sealed...)
		spoilt[len(spoilt)-1] ^= 0x80
		for _, box := range [][]byte{nil, []byte("x"), spoilt, answer.Sealed, s.elsewhere(t, f.session.Key, api.UseSafe), s.elsewhere(t, api.Key{9}, api.UsePriv)} {
			s.denies(t, api.Krb{Kind: api.KrbData, Nonce: f.session.Nonce, Sealed: box}, api.ErrSeal)
		}
		box, _ := s.sealer.Seal(f.session.Key, api.UsePriv, []byte("x"))
		s.denies(t, api.Krb{Kind: api.KrbData, Nonce: f.session.Nonce, Sealed: box}, api.ErrForm)
		own := s.sends(t, api.KrbData, place)
		s.denies(t, own, api.ErrMatch) // one of its own, back
		f.became(t, f.with(t, func(*api.Got) {}))
		f.goesOn(t, []api.Krb{hi})
		f.became(t, f.with(t, func(g *api.Got) { g.Out = []byte("hi") }))
	}
}

// elsewhere seals data of a server under a key, for a use.
func (s *site) elsewhere(t *testing.T, key api.Key, use int) []byte {
	t.Helper()
	plain, e := tlv.Join([]api.Field{{Tag: 41, Value: []byte{1}}, {Tag: 42, Value: []byte{1}}, {Tag: 43}, {Tag: 44, Value: []byte("x")}})
	if e != api.OK {
		t.Fatal(e)
	}
	box, _ := s.sealer.Seal(key, use, plain)
	return box
}

// TestPutOut: P25.4, P25.5, what comes is put out as it comes, in whatever pieces; a want is done once all three channels have ended, and not before.
func TestPutOut(t *testing.T) {
	for seed := range 40 {
		dice := probe.NewDice(uint64(seed))
		f := newSite(seed%2 == 0).meets(t, typed())
		var put [4]string
		for range 20 {
			channel, text := 1+dice.Roll(2), dice.Text(dice.Roll(300))
			put[channel] += text
			f.Write(channel, []byte(text))
			for _, part := range dice.Cut(frames(t, f.Out()...)) {
				came, answers := f.receives(t, f.takes(t, f.seals(t, part)))
				if e := f.Hear(came); e != api.OK {
					t.Fatal(e)
				}
				for _, m := range answers {
					f.gets(t, m)
				}
			}
			f.became(t, f.with(t, func(g *api.Got) { g.Out, g.Err = []byte(put[1]), []byte(put[2]) }))
		}
	}
	for _, order := range [][]int{{1, 2, 3}, {1, 3, 2}, {2, 1, 3}, {2, 3, 1}, {3, 1, 2}, {3, 2, 1}} {
		f := newSite(true).meets(t, typed())
		f.says(t, api.ChanExit, "4")
		f.says(t, api.ChanExit, "2")
		for _, channel := range order {
			f.became(t, f.with(t, func(*api.Got) {}))
			f.ends(t, channel)
		}
		f.became(t, f.with(t, func(g *api.Got) { g.Done, g.Code = true, 42 }))
	}
}

// TestOwnChannel: P25.4, ChanIn's other direction plays no part: neither what comes on it, nor its end.
func TestOwnChannel(t *testing.T) {
	f := newSite(true).meets(t, typed())
	f.says(t, api.ChanIn, "back")
	f.ends(t, api.ChanIn, api.ChanOut, api.ChanErr)
	f.became(t, f.with(t, func(*api.Got) {}))
	f.says(t, api.ChanExit, "1")
	f.ends(t, api.ChanExit)
	f.became(t, f.with(t, func(g *api.Got) { g.Done, g.Code = true, 1 }))
}

// TestExit: P25.4, the exit's number is the Code, and one behind the word error is what it has Failed with; what is no number is none.
func TestExit(t *testing.T) {
	for text, want := range map[string][2]int{
		"0": {}, "3": {3}, "255": {255}, "127": {127}, "4096": {4096}, "error 90": {0, 90}, "error 21": {0, 21}, "error 0": {}, "error 140": {0, 140},
		"": {}, "error": {}, "error ": {}, "errors 3": {}, "error  3": {}, "Error 3": {}, " 3": {}, "3 ": {}, "+3": {}, "-3": {}, "03": {}, "error -3": {}, "error 03": {}, "x": {}, "3\n": {},
		"9223372036854775807": {9223372036854775807}, "9223372036854775808": {}, "error 99999999999999999999": {}, "error error 3": {},
	} {
		for _, apart := range []bool{false, true} {
			f := newSite(true).meets(t, typed())
			for i := range len(text) {
				if apart {
					f.says(t, api.ChanExit, text[i:i+1])
				}
			}
			if !apart {
				f.says(t, api.ChanExit, text)
			}
			f.ends(t, api.ChanOut, api.ChanErr, api.ChanExit)
			f.became(t, f.with(t, func(g *api.Got) { g.Done, g.Code, g.Failed = true, want[0], want[1] }))
		}
	}
}

// TestChannelErrors: P25.4, with an error of the reader or the channels the want is done, Failed with it, and what came with it isn't read; what the pipe answered is sent nevertheless, and Take answers no error.
func TestChannelErrors(t *testing.T) {
	for text, want := range map[string]api.Errno{
		"\x05": api.ErrChannel, "\x00\x02\x01": api.ErrLong, frames(t, piece(api.ChanControl, "")): api.ErrForm, frames(t, piece(api.ChanControl, "\x03\x00\x00\x00")): api.ErrForm,
		frames(t, piece(api.ChanControl, "\x01\x00\x04\x01")): api.ErrCredit, frames(t, end(api.ChanOut), end(api.ChanOut)): api.ErrClosed, frames(t, end(api.ChanOut), piece(api.ChanOut, "x")): api.ErrClosed,
		frames(t, piece(api.ChanIn, strings.Repeat("x", 512)), piece(api.ChanIn, strings.Repeat("x", 470))): api.OK,
		frames(t, piece(api.ChanOut, "lost"), end(api.ChanControl)):                                         api.ErrForm, frames(t, append(allEnds(), end(api.ChanOut))...): api.ErrClosed,
	} {
		f := newSite(true).meets(t, typed())
		f.says(t, api.ChanOut, "ahead")
		f.sneaks(t, text)
		f.became(t, f.with(t, func(g *api.Got) { g.Out, g.Done, g.Failed = []byte("ahead"), want != api.OK, int(want) }))
		if want == api.OK { // there is room for so many bytes more, as nobody reads them
			f.sneaks(t, frames(t, piece(api.ChanIn, strings.Repeat("x", 42))))
			f.became(t, f.with(t, func(g *api.Got) { g.Out = []byte("ahead") }))
			f.sneaks(t, frames(t, piece(api.ChanIn, "x")))
			f.became(t, f.with(t, func(g *api.Got) { g.Out, g.Done, g.Failed = []byte("ahead"), true, int(api.ErrCredit) }))
		}
		if list := f.Tick(f.now); len(list) != 0 {
			t.Errorf("%q: %+v", text, list)
		}
	}
}

// TestDoneOnce: P25.4, what a want has come to stays, whatever comes behind it; its data are put out and acknowledged nevertheless.
func TestDoneOnce(t *testing.T) {
	f := newSite(true).meets(t, typed())
	f.sneaks(t, frames(t, piece(api.ChanControl, "")))
	failed := f.with(t, func(g *api.Got) { g.Done, g.Failed = true, int(api.ErrForm) })
	f.became(t, failed)
	f.sneaks(t, frames(t, piece(api.ChanOut, "out"), piece(api.ChanErr, "err"), piece(api.ChanExit, "3")))
	f.sneaks(t, frames(t, allEnds()...))
	failed.Out, failed.Err = []byte("out"), []byte("err")
	f.became(t, failed)
	f.sneaks(t, frames(t, end(api.ChanOut)))
	f.became(t, failed)

	f = newSite(true).meets(t, typed())
	f.fails(t)
	late := f.with(t, func(g *api.Got) { g.Done, g.Failed = true, 102 })
	f.became(t, late)
	f.sneaks(t, frames(t, append(allEnds()[:1], piece(api.ChanOut, "out"), piece(api.ChanExit, "error 90"), end(api.ChanExit), end(api.ChanOut))...))
	late.Out = []byte("out")
	f.became(t, late)
	if f.Link.Open() != 0 {
		t.Error("not acknowledged")
	}

	f = newSite(true).meets(t, typed())
	f.says(t, api.ChanExit, "7")
	f.ends(t, api.ChanOut, api.ChanErr, api.ChanExit)
	done := f.with(t, func(g *api.Got) { g.Done, g.Code = true, 7 })
	f.became(t, done)
	f.sneaks(t, "\x09")
	f.became(t, done)
	f.fails(t)
	f.became(t, done)
}

// TestSendsOn: P25.4, for one that is done, too, what is new goes on, behind what the pipe answered: that bytes were read, and what is still to be said.
func TestSendsOn(t *testing.T) {
	s := newSite(true)
	for n := range 3 {
		s.files.Write(api.Root, "/d/more"+strconv.Itoa(n), probe.Bytes(uint64(n), 1000), 48)
	}
	f := s.meets(t, api.Want{Service: api.SvcCopy, Server: blue, Account: "ann", Path: "/d", To: "/to"})
	f.Write(api.ChanOut, []byte("hi"))
	f.Write(api.ChanExit, []byte("error 112"))
	for _, channel := range []int{api.ChanErr, api.ChanExit, api.ChanOut} {
		f.Close(channel)
	}
	mails := f.takes(t, f.Messages(f.Say())[0])
	f.became(t, f.with(t, func(g *api.Got) { g.Done, g.Failed, g.Out = true, 112, []byte("hi") }))
	list := read(t, mails, place)
	if len(list) != 3 {
		t.Fatalf("%+v", list)
	}
	came, answers, e := f.Receive(list[0].Sealed)
	if len(came) != 0 || len(answers) != 0 || e != api.OK || f.Link.Open() != 0 { // the first one acknowledges
		t.Errorf("%q, %q, %v", came, answers, e)
	}
	f.goesOn(t, f.hears(t, mails[1:]))
	stream, _ := rcp.Source(s.files, api.Root, "/d", true)
	if f.said != "copy ann /to plain\n"+string(stream) || !f.Ended(api.ChanIn) {
		t.Errorf("%d bytes were said", len(f.said))
	}
}

// TestTickSends: P25.3, a tick sends all boxes of a session that aren't acknowledged, as they were, and behind them what is new; nothing is left out, and nothing is made anew.
func TestTickSends(t *testing.T) {
	for _, symbols := range kinds {
		f := newSite(symbols).meets(t, run(blue, strings.Repeat("x", 60)))
		first := f.Tick(f.now)
		if m := read(t, first, place); len(m) != 1 || m[0].Kind != api.KrbData || m[0].Nonce != f.session.Nonce {
			t.Fatalf("%+v", m)
		}
		for range 3 {
			if list := f.Tick(f.now + 100); !probe.SameMails(list, first) {
				t.Errorf("%+v, not %+v", list, first)
			}
		}
		answers := f.hears(t, first)
		f.hears(t, first) // once more: nothing comes
		if list := f.Tick(f.now); !probe.SameMails(list, first) {
			t.Errorf("%+v, not %+v", list, first)
		}
		f.goesOn(t, answers)
		if list := f.Tick(f.now); len(list) != 0 {
			t.Errorf("%+v", list)
		}
		if f.said != "run ann "+strings.Repeat("x", 60)+"\n" {
			t.Errorf("%q", f.said)
		}
	}
}

// TestLongCopy: P25.3, P25.4, a long copy goes in frames, in boxes of at most 1000 bytes, no more than the server has room for; also if much is lost on the way, and if what is lost is sent once more with each tick.
func TestLongCopy(t *testing.T) {
	for seed := range 12 {
		s, dice := newSite(seed%2 == 0), probe.NewDice(uint64(seed))
		for n := range 50 {
			s.files.Write(api.Root, "/d/n"+strconv.Itoa(n), probe.Bytes(uint64(n), dice.Roll(1001)), 48)
		}
		f := s.meets(t, api.Want{Service: api.SvcCopy, Server: blue, Account: "ann", Path: "/d", To: "/to", Modes: true})
		stream, e := rcp.Source(s.files, api.Root, "/d", true)
		want := "copy ann /to modes\n" + string(stream)
		s.files.Remove(api.Root, "/d/n7") // what is copied is what was there when it was wanted
		for rounds := 0; !f.Ended(api.ChanIn); rounds++ {
			if rounds > 50 || e != api.OK {
				t.Fatalf("%d rounds, %v", rounds, e)
			}
			messages := f.Messages(f.Boxes())
			for mails := s.Tick(s.now); len(mails) > 0 || len(messages) > 0; {
				var kept []api.Mail
				for _, mail := range mails {
					if seed < 4 || dice.Roll(4) > 0 {
						kept = append(kept, mail)
					}
				}
				messages = append(messages, f.hears(t, kept)...)
				mails = nil
				for _, m := range messages {
					if seed < 4 || dice.Roll(4) > 0 {
						mails = append(mails, f.takes(t, m)...)
					}
				}
				messages = nil
			}
		}
		if f.said != want {
			t.Errorf("%d: %d bytes, not %d", seed, len(f.said), len(want))
		}
	}
}

// TestLengths: P25.3, all that is to be said is said, of whatever length it is.
func TestLengths(t *testing.T) {
	for n := 440; n < 1001; n++ {
		s := newSite(true)
		s.files.Write(api.Root, "/f", probe.Bytes(uint64(n), n), 56)
		w := api.Want{Service: api.SvcCopy, Server: blue, Account: "ann", Path: "/f", To: "/to"}
		f := s.meets(t, w)
		f.goesOn(t, f.hears(t, s.Tick(s.now)))
		stream, _ := rcp.Source(s.files, api.Root, "/f", true)
		if f.said != "copy ann /to plain\n"+string(stream) || !f.Ended(api.ChanIn) {
			t.Errorf("%d: %d bytes were said", n, len(f.said))
		}
	}
}

// TestPieces: P25.3, what is said is cut into boxes of 1000 bytes, the frames of which are of 512 bytes at most.
func TestPieces(t *testing.T) {
	s := newSite(true)
	s.files.Write(api.Root, "/d/long", make([]byte, 1000), 48)
	f := s.meets(t, api.Want{Service: api.SvcCopy, Server: blue, Account: "ann", Path: "/d", To: "/to"})
	stream, _ := rcp.Source(s.files, api.Root, "/d", true)
	text := "copy ann /to plain\n" + string(stream)
	want := frames(t, piece(api.ChanIn, text[:512]), piece(api.ChanIn, text[512:1024]))
	list := read(t, s.Tick(s.now), place)
	if len(list) != 2 {
		t.Fatalf("%+v", list)
	}
	for i, part := range []string{want[:1000], want[1000:]} {
		if came, _, e := f.Receive(list[i].Sealed); e != api.OK || len(came) != 1 || string(came[0]) != part {
			t.Errorf("%q, %v", came, e)
		}
	}
	credit := f.seals(t, frames(t, piece(api.ChanControl, "\x01\x00\x04\x00"))) // all of it was read
	came, _ := f.receives(t, f.takes(t, credit))
	if len(came) != 1 || string(came[0]) != frames(t, piece(api.ChanIn, text[1024:]), end(api.ChanIn)) {
		t.Errorf("%q", came)
	}
}

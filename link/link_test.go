package link_test

import (
	"bytes"
	"slices"
	"strings"
	"testing"

	"gangway/api"
	"gangway/frame"
	"gangway/link"
	"gangway/priv"
	"gangway/probe"
	"gangway/seal"
	"gangway/telopt"
)

// key is that of the sessions of the tests.
var key = api.Key{7}

// pair gives both sides of a session.
func pair() (near, far *link.Link, s *seal.Sealer) {
	s = seal.New(true, api.Key{1})
	return link.New(s, key, 5, 0), link.New(s, key, 5, 1), s
}

// hands lets boxes come to a side, and gives the answers to them.
func hands(t *testing.T, l *link.Link, boxes [][]byte) [][]byte {
	t.Helper()
	var all [][]byte
	for _, box := range boxes {
		came, answers, e := l.Receive(box)
		if e != api.OK {
			t.Fatal(e)
		}
		if e := l.Hear(came); e != api.OK {
			t.Fatal(e)
		}
		all = append(all, answers...)
	}
	return all
}

// plain gives the data of all boxes that a sealer has sealed for a side's data, one behind the other.
func plain(t *testing.T, s *seal.Sealer, boxes [][]byte) []string {
	t.Helper()
	p := priv.New(s, key, 1)
	var all []string
	for _, box := range boxes {
		came, _, e := p.Receive(box)
		if e != api.OK || len(came) != 1 {
			t.Fatalf("%q, %v", came, e)
		}
		all = append(all, string(came[0]))
	}
	return all
}

// TestSay: what is said goes as frames, one behind the other, in boxes of at most 1000 bytes, as many as the pipe takes; what it doesn't take waits.
func TestSay(t *testing.T) {
	near, far, s := pair()
	text := string(probe.Bytes(1, 1024))
	if boxes := near.Say(); len(boxes) != 0 {
		t.Errorf("%q", boxes)
	}
	want := ""
	for channel := range 3 {
		near.Write(channel, []byte(text))
		for _, body := range []string{text[:512], text[512:]} {
			b, _ := frame.Write(api.Frame{Channel: channel, Body: []byte(body)})
			want += string(b)
		}
	}
	boxes := near.Say()
	if got := plain(t, s, boxes); len(got) != 4 || strings.Join(got, "") != want || len(got[0]) != 1000 || len(got[1]) != 1000 || len(got[2]) != 1000 {
		t.Errorf("%d pieces of %d bytes", len(got), len(strings.Join(got, "")))
	}
	near.Write(3, []byte("x"))
	if more := near.Say(); len(more) != 1 || near.Open() != 5 || near.IsHeard(0) {
		t.Errorf("%d new, %d in all", len(more), near.Open())
	}
	hands(t, near, hands(t, far, near.Boxes()))
	for channel, want := range []string{text, text, text, "x"} {
		if got := far.Read(channel, 4000); string(got) != want {
			t.Errorf("%d: %q", channel, got)
		}
	}
	if !near.IsHeard(0) || near.IsHeard(1) {
		t.Error("all has come")
	}
}

// TestLengths: all is said, of whatever length it is.
func TestLengths(t *testing.T) {
	for n := range 1025 {
		near, far, _ := pair()
		text := probe.Bytes(uint64(n), n)
		near.Write(api.ChanIn, text)
		hands(t, far, near.Say())
		if got := far.Read(api.ChanIn, 4000); !bytes.Equal(got, text) {
			t.Errorf("%d bytes have come of %d", len(got), n)
		}
	}
}

// TestWaits: what a full pipe doesn't take waits, and goes in order, once the pipe has room.
func TestWaits(t *testing.T) {
	near, far, _ := pair()
	for n := range 8 {
		near.Write(api.ChanIn, []byte{byte(n)})
		near.Say()
	}
	first := near.Boxes()
	near.Write(api.ChanIn, []byte("waits"))
	for range 2 {
		if boxes := near.Say(); len(boxes) != 0 || near.Open() != 8 || near.IsHeard(0) {
			t.Errorf("%q", boxes)
		}
	}
	answers := hands(t, far, first)
	hands(t, near, answers[7:]) // acknowledges all
	if near.Open() != 0 || near.IsHeard(0) {
		t.Errorf("%d open, heard: %v", near.Open(), near.IsHeard(0))
	}
	hands(t, far, near.Say())
	if got := far.Read(api.ChanIn, 100); string(got) != "\x00\x01\x02\x03\x04\x05\x06\awaits" {
		t.Errorf("%q", got)
	}
}

// TestIsHeard: a side is heard once just so many ends are said, have gone, and are acknowledged.
func TestIsHeard(t *testing.T) {
	near, far, _ := pair()
	near.Write(api.ChanOut, bytes.Repeat([]byte{2}, 1025)) // which is no end, though it looks like one
	far.Write(api.ChanIn, []byte("hi"))
	hands(t, near, far.Say())
	near.Read(api.ChanIn, 2) // what tells that it was read is no end, either
	near.Close(api.ChanOut)
	near.Close(api.ChanErr)
	heard := func(want int) {
		t.Helper()
		for ends := range 4 {
			if near.IsHeard(ends) != (ends == want) {
				t.Errorf("%d: %v", ends, near.IsHeard(ends))
			}
		}
	}
	heard(0)
	answers := hands(t, far, near.Say())
	heard(-1)
	hands(t, near, answers)
	heard(1) // a byte waits for credit, and an end behind it
	far.Read(api.ChanOut, 1024)
	hands(t, near, far.Say())
	answers = hands(t, far, near.Say())
	heard(-1)
	hands(t, near, answers)
	heard(2)
}

// TestHear: a frame that is none, and one that the channels don't take, is an error; frames ahead of it in another piece have come.
func TestHear(t *testing.T) {
	for _, x := range []struct {
		came []string
		want api.Errno
	}{
		{nil, api.OK}, {[]string{"", "\x00", "\x00\x01", "a"}, api.OK}, {[]string{"\x00\x00\x01a", "\x05"}, api.ErrChannel}, {[]string{"\x00\x00\x01a", "\x01\x02\x01"}, api.ErrLong},
		{[]string{"\x00\x00\x01a\x04\x00\x00"}, api.ErrForm}, {[]string{"\x00\x00\x01a", "\x04\x00\x04\x01\x00\x00\x01"}, api.ErrCredit},
		{[]string{"\x00\x00\x01a\x04\x00\x04\x02\x00\x00\x00\x00\x00\x00"}, api.ErrClosed},
	} {
		near, _, _ := pair()
		var came [][]byte
		for _, data := range x.came {
			came = append(came, []byte(data))
		}
		if e := near.Hear(came); e != x.want {
			t.Errorf("%q: %v", x.came, e)
		}
		if got := near.Read(api.ChanIn, 10); len(x.came) > 0 && string(got) != "a" {
			t.Errorf("%q: %q", x.came, got)
		}
	}
	near, _, _ := pair()
	for range 2 {
		if e := near.Hear([][]byte{{9}}); e != api.ErrChannel {
			t.Error(e)
		}
	}
}

// TestMessages: each box is a KrbData with the session's Nonce.
func TestMessages(t *testing.T) {
	near, _, _ := pair()
	list := near.Messages([][]byte{[]byte("a"), []byte("b")})
	if !slices.EqualFunc(list, []api.Krb{{Kind: api.KrbData, Nonce: 5, Sealed: []byte("a")}, {Kind: api.KrbData, Nonce: 5, Sealed: []byte("b")}}, probe.SameKrb) {
		t.Errorf("%+v", list)
	}
	if list := near.Messages(nil); len(list) != 0 {
		t.Errorf("%+v", list)
	}
}

// TestSides: what one side has sealed only the other one takes.
func TestSides(t *testing.T) {
	near, far, s := pair()
	near.Write(api.ChanIn, []byte("hi"))
	box := near.Say()[0]
	if _, _, e := near.Receive(box); e != api.ErrMatch {
		t.Error(e)
	}
	if _, _, e := link.New(s, api.Key{8}, 5, 1).Receive(box); e != api.ErrSeal {
		t.Error(e)
	}
	if _, _, e := far.Receive(box); e != api.OK {
		t.Error(e)
	}
}

// TestBodies: data are looked at as they are, but telnet's stream has as many bodies as it has parts that say what is looked for; none, if it has an error.
func TestBodies(t *testing.T) {
	part := func(x api.Tel) string {
		b, e := telopt.Write(x)
		if e != api.OK {
			t.Fatal(e)
		}
		return string(b)
	}
	is, no, yes := part(telopt.Is([]byte("i\xffs"))), part(telopt.Reply(false, []byte("no"))), part(telopt.Reply(true, []byte("yes")))
	for _, x := range []struct {
		data     string
		is, said []string
	}{
		{"", []string{""}, []string{""}}, {"text", []string{"text"}, []string{"text"}}, {"x" + is, []string{"x" + is}, []string{"x" + is}},
		{is, []string{"i\xffs"}, nil}, {no, nil, []string{"no"}}, {yes, nil, []string{"yes"}}, {part(telopt.Send()), nil, nil}, {"\xff", nil, nil}, {"\xff\xfb\x25x", nil, nil},
		{no + "data" + is + part(telopt.Send()) + "\xff\xf1" + yes + is + "\xff\xfa", []string{"i\xffs", "i\xffs"}, []string{"no", "yes"}},
		{no + is + "\xff\x01", nil, nil}, {is[:len(is)-1], nil, nil}, {"\xff\xff" + yes, nil, []string{"yes"}}, {part(telopt.Is(nil)), []string{""}, nil},
	} {
		for what, want := range map[int][]string{api.AuthIs: x.is, api.AuthReply: x.said} {
			same := func(got []byte, want string) bool { return string(got) == want }
			if got := link.Bodies([]byte(x.data), what); !slices.EqualFunc(got, want, same) {
				t.Errorf("%q, %d: %q, not %q", x.data, what, got, want)
			}
		}
		if link.IsTelnet([]byte(x.data)) != bytes.HasPrefix([]byte(x.data), []byte{255}) {
			t.Errorf("%q", x.data)
		}
	}
}

package telopt_test

import (
	"reflect"
	"slices"
	"testing"

	"gangway/api"
	"gangway/probe"
	"gangway/telopt"
)

// TestNothingIsChanged: P22.5, what is handed in stays as it is, its spare room, too.
func TestNothingIsChanged(t *testing.T) {
	list, all := probe.Roomy("a\xff\xff")
	r := telopt.NewReader()
	for _, f := range []func(){
		func() { telopt.Write(api.Tel{Kind: api.TelData, Data: list}) },
		func() { telopt.Write(api.Tel{Kind: api.TelSub, Option: 37, Data: list}) },
		func() { telopt.Write(api.Tel{Kind: api.TelVerb, Verb: 251, Data: list}) },
		func() { telopt.Is(list) },
		func() { telopt.Reply(true, list) },
		func() { telopt.Auth(api.Tel{Kind: api.TelSub, Option: 37, Data: list}) },
		func() { r.Feed(list) },
		func() { r.Feed(list[:1]) },
	} {
		f()
		if string(all) != "a\xff\xff"+probe.Spare {
			t.Fatalf("%q", all)
		}
	}
}

// TestReaderKeepsNothing: P22.5, a piece may be written over behind Feed, also one that ends in the middle of a part.
func TestReaderKeepsNothing(t *testing.T) {
	r := telopt.NewReader()
	for _, c := range []struct {
		piece string
		want  []api.Tel
	}{
		{"ab\xff\xfa\x25cd", []api.Tel{data("ab")}}, {"ef", nil}, {"\xff", nil}, {"\xf0gh\xff\xfb", []api.Tel{sub(37, "cdef"), data("gh")}}, {"\x01", []api.Tel{verb(251, 1)}},
	} {
		piece, _ := probe.Roomy(c.piece)
		got, e := r.Feed(piece)
		probe.Spoil(piece)
		if e != api.OK || !slices.EqualFunc(got, c.want, samePart) {
			t.Errorf("%q: %v, %v", c.piece, tellAll(got), e)
		}
	}
}

// TestReaderAnswersAreNew: P22.5, what Feed answers may be written over, with its spare room; no other part has it, nor the reader.
func TestReaderAnswersAreNew(t *testing.T) {
	stream := []byte("ab\xff\xfa\x25cd\xff\xf0ef\xff\xfa\x26gh\xff\xf0ij\xff\xfa\x27kl")
	want := []api.Tel{data("ab"), sub(37, "cd"), data("ef"), sub(38, "gh"), data("ij")}
	r := telopt.NewReader()
	for range 3 {
		parts, e := r.Feed(stream)
		if e != api.OK || !slices.EqualFunc(parts, want, samePart) {
			t.Fatalf("%v, %v", tellAll(parts), e)
		}
		for i := range parts {
			probe.Spoil(parts[i].Data)
			for k := i + 1; k < len(parts); k++ {
				if !samePart(parts[k], want[k]) {
					t.Errorf("part %d shares memory with part %d", k, i)
				}
			}
		}
		parts = parts[:cap(parts)]
		for i := range parts {
			parts[i] = api.Tel{Kind: 9}
		}
		feeds(t, r, "mn\xff\xf0", sub(39, "klmn"))
	}
	if string(stream) != "ab\xff\xfa\x25cd\xff\xf0ef\xff\xfa\x26gh\xff\xf0ij\xff\xfa\x27kl" {
		t.Errorf("%q", stream)
	}
}

// TestAnswersAreNew: P22.5, what the other calls answer may be written over, and so may what they were given.
func TestAnswersAreNew(t *testing.T) {
	for _, p := range []api.Tel{telopt.Send(), telopt.Is(nil), telopt.Is([]byte("body")), telopt.Reply(true, nil), telopt.Reply(false, []byte("body")), data("data"), data("\xff")} {
		one, _ := telopt.Write(p)
		two, _ := telopt.Write(p)
		kept := string(two)
		probe.Spoil(one)
		probe.Spoil(p.Data)
		if string(two) != kept {
			t.Errorf("%q: answers share memory", kept)
		}
	}
	body, all := probe.Roomy("body")
	is, reply := telopt.Is(body), telopt.Reply(true, body)
	empty := telopt.Is(all[:0])
	probe.Spoil(body)
	auths(t, is, api.AuthIs, false, "body")
	auths(t, reply, api.AuthReply, true, "body")
	_, _, got, _ := telopt.Auth(is)
	_, _, again, _ := telopt.Auth(is)
	_, _, none, _ := telopt.Auth(empty)
	probe.Spoil(none)
	probe.Spoil(got)
	auths(t, is, api.AuthIs, false, "body")
	auths(t, empty, api.AuthIs, false, "")
	probe.Spoil(is.Data)
	if string(again) != "body" || string(all) == "body"+probe.Spare {
		t.Errorf("%q, %q", again, all)
	}
	probe.Spoil(telopt.Send().Data)
	probe.Spoil(telopt.Is(nil).Data)
	auths(t, telopt.Send(), api.AuthSend, false, "")
	auths(t, telopt.Is(nil), api.AuthIs, false, "")
}

// TestSpareRoomIsNotGiven: P22.5, a body's spare room, in which more of the part stood, isn't the answer's.
func TestSpareRoomIsNotGiven(t *testing.T) {
	list, all := probe.Roomy("\x00\x02\x02\x00body")
	_, _, body, _ := telopt.Auth(api.Tel{Kind: api.TelSub, Option: 37, Data: list})
	probe.Spoil(body)
	if string(all) != "\x00\x02\x02\x00body"+probe.Spare {
		t.Errorf("%q", all)
	}
}

// TestAnyArguments: P1 and P2, each call ends, without a panic, and answers the same in a second run.
func TestAnyArguments(t *testing.T) {
	answers := func(text string) []any {
		r := telopt.NewReader()
		var out []any
		for i := range text {
			kind := []int{1, 2, 3, -1, 1 << 40}[(i+len(text))%5]
			p := api.Tel{Kind: kind, Verb: int(text[i]), Option: int(text[len(text)-1-i]), Data: []byte(text[i:])}
			b, e := telopt.Write(p)
			p.Kind, p.Option = 3, 37
			what, accepts, body, e2 := telopt.Auth(p)
			parts, e3 := r.Feed([]byte(text[i:]))
			out = append(out, b, e, what, accepts, body, e2, parts, e3, telopt.Is([]byte(text)), telopt.Reply(i%2 == 0, []byte(text[:i])))
		}
		return out
	}
	if s, parts := probe.Parting(probe.Texts("\x00\x02\x25\xf0\xfa\xfb\xff", 5), answers, reflect.DeepEqual); parts {
		t.Errorf("%q: two runs part", s)
	}
}

package telopt_test

import (
	"math"
	"slices"
	"strings"
	"testing"

	"gangway/api"
	"gangway/probe"
	"gangway/telopt"
)

// auths asserts what Auth answers.
func auths(t *testing.T, p api.Tel, what int, accepts bool, body string) {
	t.Helper()
	if gotWhat, gotAccepts, got, e := telopt.Auth(p); gotWhat != what || gotAccepts != accepts || string(got) != body || e != api.OK {
		t.Errorf("%s: %d, %v, %.60q, %v", tell(p), gotWhat, gotAccepts, got, e)
	}
}

// refuses asserts that Auth answers ErrForm.
func refuses(t *testing.T, p api.Tel) {
	t.Helper()
	if what, accepts, body, e := telopt.Auth(p); what != 0 || accepts || len(body) > 0 || e != api.ErrForm {
		t.Errorf("%s: %d, %v, %.60q, %v", tell(p), what, accepts, body, e)
	}
}

// bodies gives some bodies, among them heads of the option's parts.
func bodies() []string {
	return []string{"", "b", "\x00", "\xff", "\x01\x02\x02", "\x00\x02\x02\x00", "\x02\x02\x02\x02", strings.Repeat("long", 500), strings.Repeat("\xff", 5000)}
}

// TestSend: P22.4, Send's three bytes, as a part of the option 37, and as a stream.
func TestSend(t *testing.T) {
	if got := telopt.Send(); !samePart(got, sub(37, "\x01\x02\x02")) {
		t.Error(tell(got))
	}
	writes(t, telopt.Send(), "\xff\xfa\x25\x01\x02\x02\xff\xf0", 0)
	auths(t, telopt.Send(), api.AuthSend, false, "")
}

// TestIs: P22.4, Is's four bytes and its body, of whatever length, and the way back.
func TestIs(t *testing.T) {
	for _, body := range bodies() {
		got := telopt.Is([]byte(body))
		if !samePart(got, sub(37, "\x00\x02\x02\x00"+body)) {
			t.Error(tell(got))
		}
		auths(t, got, api.AuthIs, false, body)
	}
	auths(t, telopt.Is(nil), api.AuthIs, false, "")
}

// TestReply: P22.4, Reply's four bytes, of which one tells whether it accepts, and its body, and the way back.
func TestReply(t *testing.T) {
	for _, body := range bodies() {
		yes, no := telopt.Reply(true, []byte(body)), telopt.Reply(false, []byte(body))
		if !samePart(yes, sub(37, "\x02\x02\x02\x02"+body)) || !samePart(no, sub(37, "\x02\x02\x02\x01"+body)) {
			t.Error(tell(yes), tell(no))
		}
		auths(t, yes, api.AuthReply, true, body)
		auths(t, no, api.AuthReply, false, body)
	}
	auths(t, telopt.Reply(true, nil), api.AuthReply, true, "")
	auths(t, telopt.Reply(false, nil), api.AuthReply, false, "")
}

// TestAuthPart: P22.4, ErrForm of what isn't a part of the option 37, whatever its data are; its Verb plays no part.
func TestAuthPart(t *testing.T) {
	for _, right := range []api.Tel{telopt.Send(), telopt.Is([]byte("body")), telopt.Reply(true, []byte("body")), telopt.Reply(false, nil)} {
		for _, n := range append(wild(), 0, 1, 2, 4, 36, 38, 255, 37+256) {
			other := right
			other.Option = n
			refuses(t, other)
			if other = right; n != api.TelSub {
				other.Kind = n
				refuses(t, other)
			}
		}
		what, accepts, body, _ := telopt.Auth(right)
		right.Verb = math.MinInt
		auths(t, right, what, accepts, string(body))
	}
}

// TestAuthData: P22.4, of all short data just those are right that begin as Is or Reply does, or are Send's.
func TestAuthData(t *testing.T) {
	met := map[int]int{}
	for s := range probe.Texts("\x00\x01\x02\x03\x25", 6) {
		p := sub(37, s)
		switch {
		case s == "\x01\x02\x02":
			met[1]++
			auths(t, p, 1, false, "")
		case strings.HasPrefix(s, "\x00\x02\x02\x00"):
			met[2]++
			auths(t, p, 0, false, s[4:])
		case strings.HasPrefix(s, "\x02\x02\x02\x01"), strings.HasPrefix(s, "\x02\x02\x02\x02"):
			met[3]++
			auths(t, p, 2, s[3] == 2, s[4:])
		default:
			refuses(t, p)
		}
	}
	if met[1] != 1 || met[2] != 31 || met[3] != 62 {
		t.Errorf("met %v", met)
	}
}

// TestAuthEachByte: P22.4, a head in which any byte is another one, or that isn't whole, is ErrForm, but where it tells something else.
func TestAuthEachByte(t *testing.T) {
	heads := []string{"\x01\x02\x02", "\x00\x02\x02\x00", "\x02\x02\x02\x01", "\x02\x02\x02\x02"}
	for _, head := range heads {
		for i := range head {
			refuses(t, sub(37, head[:i]))
			for c := range 256 {
				other := head[:i] + string([]byte{byte(c)}) + head[i+1:]
				if slices.Contains(heads, other) {
					continue
				}
				refuses(t, sub(37, other))
				refuses(t, sub(37, other+"body"))
			}
		}
	}
	refuses(t, sub(37, "\x01\x02\x02\x00"))
	refuses(t, sub(37, "\x01\x02\x02body"))
}

package telopt_test

import (
	"bytes"
	"fmt"
	"math"
	"strings"
	"testing"

	"gangway/api"
	"gangway/telopt"
)

// data gives a part that is data.
func data(s string) api.Tel { return api.Tel{Kind: api.TelData, Data: []byte(s)} }

// verb gives a verb.
func verb(v, option int) api.Tel { return api.Tel{Kind: api.TelVerb, Verb: v, Option: option} }

// sub gives a part of an option.
func sub(option int, s string) api.Tel {
	return api.Tel{Kind: api.TelSub, Option: option, Data: []byte(s)}
}

// samePart tells whether two parts are one; nil and empty are.
func samePart(a, b api.Tel) bool {
	return a.Kind == b.Kind && a.Verb == b.Verb && a.Option == b.Option && bytes.Equal(a.Data, b.Data)
}

// tell gives a part as a text, of which long data are cut.
func tell(t api.Tel) string {
	return fmt.Sprintf("{%d %d %d %d:%.40q}", t.Kind, t.Verb, t.Option, len(t.Data), t.Data)
}

// writes asserts what Write answers.
func writes(t *testing.T, p api.Tel, want string, wantE api.Errno) {
	t.Helper()
	if got, e := telopt.Write(p); string(got) != want || e != wantE {
		t.Errorf("%s: %.60q (%d), %v, not %.60q (%d), %v", tell(p), got, len(got), e, want, len(want), wantE)
	}
}

// TestWriteData: P22.1, data are written as their bytes, a 255 twice, as the chapter's example, each byte alone, none, and the most.
func TestWriteData(t *testing.T) {
	writes(t, data("a\xff"), "a\xff\xff", 0)
	writes(t, data(""), "", 0)
	writes(t, api.Tel{Kind: 1}, "", 0)
	writes(t, data("\xff\xff\xfa\xf0"), "\xff\xff\xff\xff\xfa\xf0", 0)
	for c := range 256 {
		one := string([]byte{byte(c)})
		want := one
		if c == 255 {
			want += one
		}
		writes(t, data(one), want, 0)
		writes(t, data("x"+one+"y"), "x"+want+"y", 0)
		writes(t, sub(7, one), "\xff\xfa\x07"+want+"\xff\xf0", 0)
	}
	writes(t, data(strings.Repeat("x", 3000)), strings.Repeat("x", 3000), 0)
	writes(t, data(strings.Repeat("\xff", 3000)), strings.Repeat("\xff", 6000), 0)
}

// TestWriteVerb: P22.1, each verb with each option is three bytes; an option of 255 stands once.
func TestWriteVerb(t *testing.T) {
	for v := 251; v <= 254; v++ {
		for option := range 256 {
			writes(t, verb(v, option), string([]byte{255, byte(v), byte(option)}), 0)
		}
	}
}

// TestWriteSub: P22.1, a part of each option; its option of 255 stands once, a 255 of its data twice.
func TestWriteSub(t *testing.T) {
	for option := range 256 {
		head := string([]byte{255, 250, byte(option)})
		writes(t, sub(option, ""), head+"\xff\xf0", 0)
		writes(t, sub(option, "a\xff\xf0b"), head+"a\xff\xff\xf0b\xff\xf0", 0)
	}
	writes(t, sub(37, strings.Repeat("\xff", 3000)), "\xff\xfa\x25"+strings.Repeat("\xff", 6000)+"\xff\xf0", 0)
}

// wild gives numbers that are no byte.
func wild() []int {
	return []int{-1, 256, 257, -255, 511, 1 << 16, 1<<32 + 37, 1<<32 + 251, math.MaxInt, math.MinInt}
}

// TestWriteArg: P22.1, ErrArg of what isn't a kind, an option or a verb, also if there are too many data.
func TestWriteArg(t *testing.T) {
	long := make([]byte, 3001)
	for _, list := range [][]byte{nil, []byte("x"), long} {
		for _, kind := range append(wild(), 0, 4, 255) {
			writes(t, api.Tel{Kind: kind, Verb: 251, Option: 1, Data: list}, "", api.ErrArg)
		}
		for _, option := range wild() {
			writes(t, api.Tel{Kind: api.TelVerb, Verb: 251, Option: option, Data: list}, "", api.ErrArg)
			writes(t, api.Tel{Kind: api.TelSub, Verb: 251, Option: option, Data: list}, "", api.ErrArg)
		}
		for _, v := range append(wild(), 0, 1, 240, 249, 250, 255) {
			writes(t, api.Tel{Kind: api.TelVerb, Verb: v, Option: 1, Data: list}, "", api.ErrArg)
		}
	}
}

// TestWriteLong: P22.1, ErrLong of more than 3000 bytes of data, but a verb's; a 255, which is written twice, counts once.
func TestWriteLong(t *testing.T) {
	for _, n := range []int{3001, 3002, 6000, 1 << 20} {
		for _, c := range []string{"x", "\xff"} {
			list := strings.Repeat(c, n)
			writes(t, data(list), "", api.ErrLong)
			writes(t, sub(0, list), "", api.ErrLong)
			writes(t, sub(255, list), "", api.ErrLong)
		}
	}
}

// TestWriteNoPart: P22.1, fields that a kind has no use for play no part.
func TestWriteNoPart(t *testing.T) {
	for _, n := range append(wild(), 0, 251, 255) {
		writes(t, api.Tel{Kind: api.TelData, Verb: n, Option: 1, Data: []byte("d")}, "d", 0)
		writes(t, api.Tel{Kind: api.TelData, Option: n, Data: []byte("d")}, "d", 0)
		writes(t, api.Tel{Kind: api.TelSub, Verb: n, Option: 1, Data: []byte("d")}, "\xff\xfa\x01d\xff\xf0", 0)
	}
	for _, n := range []int{1, 3000, 3001, 1 << 20} {
		writes(t, api.Tel{Kind: api.TelVerb, Verb: 254, Option: 3, Data: bytes.Repeat([]byte{255}, n)}, "\xff\xfe\x03", 0)
	}
}

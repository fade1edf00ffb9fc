package priv_test

import (
	"bytes"
	"math"
	"slices"
	"testing"

	"gangway/api"
	"gangway/probe"
	"gangway/seal"
)

const greatest = math.MaxUint64

var (
	key   = api.Key{1, 15: 0xf1}
	other = api.Key{2, 15: 0xf1}
	kinds = []bool{true, false} // by symbols, by sums
)

// bench is a sealer that is looked at, and a twin that seals what that one must.
type bench struct {
	*testing.T
	s, twin *seal.Sealer
}

// onBoth runs a test with a bench of each kind, and looks whether the sealer did just what its twin did.
func onBoth(t *testing.T, run func(*bench)) {
	t.Helper()
	for _, symbols := range kinds {
		b := &bench{t, seal.New(symbols, api.Key{0xaa}), seal.New(symbols, api.Key{0xaa})}
		run(b)
		b.alike()
	}
}

// alike looks whether the sealers have drawn and sealed as often.
func (b *bench) alike() {
	b.Helper()
	if !probe.Alike(b.s, b.twin) {
		b.Errorf("%d drawn, not %d; sealed %+v, not %+v", b.s.Drawn(), b.twin.Drawn(), b.s.Terms(), b.twin.Terms())
	}
}

// must gives the box that the sealer must make next.
func (b *bench) must(key api.Key, use int, plain string) []byte {
	b.Helper()
	box, e := b.twin.Seal(key, use, []byte(plain))
	if e != api.OK {
		b.Fatalf("%q: %v", plain, e)
	}
	return box
}

// given gives a box that the test itself makes.
func (b *bench) given(key api.Key, use int, plain string) []byte {
	b.Helper()
	if _, e := b.s.Seal(key, use, []byte(plain)); e != api.OK {
		b.Fatalf("%q: %v", plain, e)
	}
	return b.must(key, use, plain)
}

// content gives what is in a pipe's box.
func content(side, number, upTo uint64, data string) string {
	return probe.Field(41, probe.Num(side)) + probe.Field(42, probe.Num(number)) + probe.Field(43, probe.Num(upTo)) + probe.Field(44, data)
}

// texts gives lists of bytes as texts.
func texts(lists [][]byte) []string {
	var all []string
	for _, b := range lists {
		all = append(all, string(b))
	}
	return all
}

// spoil writes over texts.
func spoil(texts ...string) {
	for _, s := range texts {
		spoilText(s)
	}
}

// sameLists tells whether two lists have the same boxes.
func sameLists(a, b [][]byte) bool { return slices.EqualFunc(a, b, bytes.Equal) }

// spoilt gives boxes that are none, made of one that is.
func spoilt(box []byte) [][]byte {
	all := [][]byte{nil, {}, {83}, make([]byte, 9), make([]byte, 24), make([]byte, 3000), box[1:], box[:len(box)-1], append(bytes.Clone(box), 0)}
	for i := range box {
		turned := bytes.Clone(box)
		turned[i] ^= 0x80
		all = append(all, turned)
	}
	return all
}

package seal_test

import (
	"bytes"
	"crypto/aes"
	"crypto/cipher"
	"crypto/hmac"
	"crypto/sha256"
	"encoding/binary"
	"encoding/hex"
	"fmt"
	"math"
	"slices"
	"testing"

	"gangway/api"
	"gangway/probe"
	"gangway/seal"
)

// kinds are both kinds of sealers.
var kinds = []bool{true, false}

// uses are uses at the edges, and those that api names.
var uses = []int{0, 1, api.UseTicket, api.UseAuth, api.UseReply, api.UseGrant, api.UsePriv, api.UseSafe, api.UseCred, 255, 256, -1, -2, math.MaxInt, math.MinInt}

// tail gives the 16 bytes that a sum under a secret begins with, by the library.
func tail(secret, data []byte) []byte {
	h := hmac.New(sha256.New, secret)
	h.Write(data)
	return h.Sum(nil)[:16]
}

// derive gives the key of a label and a number, by the library.
func derive(key api.Key, label string, n uint64) api.Key {
	number := bytes.TrimLeft(binary.BigEndian.AppendUint64(nil, n), "\x00")
	return api.Key(tail(key[:], append([]byte(label+"\x00"), number...)))
}

// wantBox gives the box that a sealer by sums must make, by the library; it asks for no limit.
func wantBox(t *testing.T, n uint64, key api.Key, usage int, plain []byte) []byte {
	t.Helper()
	under := derive(key, "seal", uint64(usage))
	c, err := aes.NewCipher(under[:])
	if err != nil {
		t.Fatal(err)
	}
	box := binary.BigEndian.AppendUint64(nil, n)
	turned := make([]byte, len(plain))
	cipher.NewCTR(c, append(slices.Clone(box), make([]byte, 8)...)).XORKeyStream(turned, plain)
	box = append(box, turned...)
	secret := derive(key, "sum", uint64(usage))
	return append(box, tail(secret[:], box)...)
}

// symbolBox gives the box that a sealer by symbols must make.
func symbolBox(n uint64) []byte {
	return binary.BigEndian.AppendUint64([]byte{83}, n)
}

// must seals what must be sealed.
func must(t *testing.T, s *seal.Sealer, key api.Key, usage int, plain []byte) []byte {
	t.Helper()
	box, e := s.Seal(key, usage, plain)
	if e != api.OK {
		t.Fatalf("%d bytes: %v", len(plain), e)
	}
	return box
}

// refused tells whether a box isn't opened, with nothing beside the error.
func refused(s *seal.Sealer, key api.Key, usage int, box []byte) bool {
	plain, e := s.Open(key, usage, box)
	return e == api.ErrSeal && len(plain) == 0
}

// opens tells whether a box is opened to these bytes.
func opens(s *seal.Sealer, key api.Key, usage int, box, want []byte) bool {
	plain, e := s.Open(key, usage, box)
	return e == api.OK && bytes.Equal(plain, want)
}

// TestFreshSymbols: P6.1, keys are numbered in order, whatever the seed; what is sealed in between plays no part.
func TestFreshSymbols(t *testing.T) {
	for _, seed := range []api.Key{{}, {0xf2}, api.Key(probe.Bytes(1, 16))} {
		s := seal.New(true, seed)
		for n := range 70000 {
			if s.Drawn() != n {
				t.Fatalf("%d: %d drawn", n, s.Drawn())
			}
			want := api.Key{0xf5}
			binary.BigEndian.PutUint64(want[8:], uint64(n))
			if got := s.Fresh(); got != want {
				t.Fatalf("%d: %x", n, got)
			}
			if n%1000 == 0 {
				must(t, s, seed, 2, nil)
			}
		}
	}
}

// TestFreshSums: P6.1, keys are made of the seed.
func TestFreshSums(t *testing.T) {
	met := map[api.Key]int{}
	for _, seed := range []api.Key{{}, {0xf2}, {15: 1}, api.Key(probe.Bytes(1, 16))} {
		s := seal.New(false, seed)
		for n := range 600 {
			if s.Drawn() != n {
				t.Fatalf("%d: %d drawn", n, s.Drawn())
			}
			got := s.Fresh()
			if got != derive(seed, "fresh", uint64(n)) {
				t.Fatalf("%x, %d: %x", seed, n, got)
			}
			met[got]++
			if n%100 == 0 {
				must(t, s, seed, 2, nil)
			}
		}
	}
	if len(met) != 4*600 {
		t.Errorf("%d keys", len(met))
	}
}

// TestKnown: P6.1 and P6.2, keys and boxes that other programs have told.
func TestKnown(t *testing.T) {
	key := api.Key{0, 1, 2, 3, 4, 5, 6, 7, 8, 9, 10, 11, 12, 13, 14, 15}
	s := seal.New(false, key)
	for _, x := range []struct {
		usage      int
		plain, box string
	}{
		{3, "hi ann", "0000000000000000907620c738ad2c5266373996cc5cdb4ba256e232d270"},
		{-1, "", "0000000000000001b4eee841b69660698cd9cd86167a3126"},
		{256, "what is told to host/s1", "0000000000000002b15f47730e66fa5aa03b5cb3b659c7a0c9963f2869280c9b2148c55f391781156ebd6c2d43e67c"},
	} {
		box := must(t, s, key, x.usage, []byte(x.plain))
		if hex.EncodeToString(box) != x.box {
			t.Errorf("%q: %x", x.plain, box)
		}
	}
	for n, want := range []string{"55a919e3cf00b3ca31aed7a794faef8c", "49aa6a46dcdb869932af2f957ecd4f1e"} {
		if got := s.Fresh(); hex.EncodeToString(got[:]) != want {
			t.Errorf("%d: %x", n, got)
		}
	}
}

// TestNothingAtFirst: P6.1, a new sealer has drawn and sealed nothing: no box opens, there are no terms.
func TestNothingAtFirst(t *testing.T) {
	for _, symbols := range kinds {
		s := seal.New(symbols, api.Key{1})
		if s.Drawn() != 0 || len(s.Terms()) != 0 {
			t.Errorf("%v: %d, %v", symbols, s.Drawn(), s.Terms())
		}
		if !refused(s, api.Key{1}, 2, symbolBox(0)) || !refused(s, api.Key{}, 0, make([]byte, 24)) {
			t.Errorf("%v: a box opens", symbols)
		}
	}
}

// TestSealSymbols: P6.2 and P6.3, boxes are numbered in order, nothing else is in them, and each opens to its own bytes.
func TestSealSymbols(t *testing.T) {
	s := seal.New(true, api.Key{})
	for n := range 70000 {
		if got := must(t, s, api.Key{byte(n % 3)}, n%5, []byte{byte(n), byte(n >> 8)}); !bytes.Equal(got, symbolBox(uint64(n))) {
			t.Fatalf("%d: %x", n, got)
		}
	}
	for _, n := range []int{0, 1, 255, 256, 257, 65535, 65536, 69999} {
		if !opens(s, api.Key{byte(n % 3)}, n%5, symbolBox(uint64(n)), []byte{byte(n), byte(n >> 8)}) {
			t.Errorf("%d doesn't open", n)
		}
	}
	if !refused(s, api.Key{70000 % 3}, 70000%5, symbolBox(70000)) {
		t.Error("the next number opens")
	}
}

// TestSealSums: P6.2 and P6.3, by the library: each length over the first blocks, the uses, and numbers of two bytes.
func TestSealSums(t *testing.T) {
	s := seal.New(false, api.Key{7})
	n := uint64(0)
	for _, usage := range uses {
		for length := range 50 {
			key, plain := api.Key(probe.Bytes(n, 16)), probe.Bytes(n+1, length)
			box := must(t, s, key, usage, plain)
			if !bytes.Equal(box, wantBox(t, n, key, usage, plain)) {
				t.Fatalf("%d, %d bytes for %d: %x", n, length, usage, box)
			}
			if !opens(s, key, usage, box, plain) {
				t.Fatalf("%d, %d bytes for %d: it doesn't open", n, length, usage)
			}
			n++
		}
	}
}

// TestSealLong: P6.2, 2000 bytes are sealed, one more aren't, and then the number doesn't count on.
func TestSealLong(t *testing.T) {
	for _, symbols := range kinds {
		s := seal.New(symbols, api.Key{})
		for n, length := range []int{0, 1999, 2000} {
			plain := probe.Bytes(uint64(length), length)
			box := must(t, s, api.Key{1}, 2, plain)
			want := wantBox(t, uint64(n), api.Key{1}, 2, plain)
			if symbols {
				want = symbolBox(uint64(n))
			}
			if !bytes.Equal(box, want) || !opens(s, api.Key{1}, 2, box, plain) {
				t.Errorf("%v, %d bytes: %x", symbols, length, box)
			}
			for _, more := range []int{2001, 2002, 2024, 2025, 65536, 1 << 20} {
				if box, e := s.Seal(api.Key{1}, 2, make([]byte, more)); e != api.ErrLong || len(box) != 0 {
					t.Errorf("%v, %d bytes: %v, %d bytes", symbols, more, e, len(box))
				}
			}
		}
		if got := len(s.Terms()); symbols && got != 3 {
			t.Errorf("%d terms", got)
		}
	}
}

// TestOtherKey: P6.3, each bit of the key counts.
func TestOtherKey(t *testing.T) {
	for _, symbols := range kinds {
		s := seal.New(symbols, api.Key{})
		key := api.Key(probe.Bytes(3, 16))
		for _, length := range []int{0, 20} {
			plain := probe.Bytes(4, length)
			box := must(t, s, key, 2, plain)
			for bit := range 128 {
				other := key
				other[bit/8] ^= 1 << (bit % 8)
				if !refused(s, other, 2, box) {
					t.Errorf("%v, %d bytes: bit %d", symbols, length, bit)
				}
			}
			if !opens(s, key, 2, box, plain) {
				t.Errorf("%v, %d bytes: the key itself", symbols, length)
			}
		}
	}
}

// TestOtherUse: P6.3, a box is opened for just its use.
func TestOtherUse(t *testing.T) {
	for _, symbols := range kinds {
		s := seal.New(symbols, api.Key{})
		for _, usage := range uses {
			plain := probe.Bytes(uint64(usage), 9)
			box := must(t, s, api.Key{5}, usage, plain)
			for _, other := range append(slices.Clone(uses), usage+1, usage-1, usage+256, usage^1<<32, usage^math.MinInt) {
				if other == usage && !opens(s, api.Key{5}, other, box, plain) || other != usage && !refused(s, api.Key{5}, other, box) {
					t.Errorf("%v, of %d for %d", symbols, usage, other)
				}
			}
		}
	}
}

// TestOtherBox: P6.3, a box is opened as it was made only: no bit may be another one, none be missing or more.
func TestOtherBox(t *testing.T) {
	for _, symbols := range kinds {
		s := seal.New(symbols, api.Key{})
		for n, length := range []int{0, 1, 16, 33} {
			key, plain := api.Key{byte(n)}, probe.Bytes(4, length)
			box := must(t, s, key, 2, plain)
			for bit := range len(box) * 8 {
				other := slices.Clone(box)
				other[bit/8] ^= 1 << (bit % 8)
				if !refused(s, key, 2, other) {
					t.Errorf("%v, %d: bit %d", symbols, n, bit)
				}
			}
			for cut := range box {
				if !refused(s, key, 2, box[:cut]) || !refused(s, key, 2, box[cut+1:]) || !refused(s, key, 2, slices.Delete(slices.Clone(box), cut, cut+1)) {
					t.Errorf("%v, %d: cut at %d", symbols, n, cut)
				}
			}
			for b := range 256 {
				more := append(slices.Clone(box), byte(b))
				if !refused(s, key, 2, more) || !refused(s, key, 2, append([]byte{byte(b)}, box...)) || !refused(s, key, 2, append(more, box...)) {
					t.Errorf("%v, %d: %d more", symbols, n, b)
				}
			}
			if !opens(s, key, 2, box, plain) {
				t.Errorf("%v, %d: the box itself", symbols, n)
			}
		}
	}
}

// TestOpenSymbols: P6.3, what nobody made: numbers beyond those that were sealed, other first bytes, texts that are in no box.
func TestOpenSymbols(t *testing.T) {
	s := seal.New(true, api.Key{})
	key, plain := api.Key{1}, []byte("what was sealed")
	must(t, s, key, 2, plain)
	must(t, s, key, 2, plain)
	for _, n := range []uint64{2, 3, 255, 256, 1 << 8, 1 << 32, 1<<32 + 1, 1 << 56, 1 << 63, 1<<63 + 1, math.MaxUint64} {
		if !refused(s, key, 2, symbolBox(n)) {
			t.Errorf("%d opens", n)
		}
	}
	for b := range 256 {
		box := symbolBox(1)
		box[0] = byte(b)
		if b == 83 && !opens(s, key, 2, box, plain) || b != 83 && !refused(s, key, 2, box) {
			t.Errorf("the first byte %d", b)
		}
	}
	for _, box := range [][]byte{nil, {}, {83}, plain, make([]byte, 9), make([]byte, 24), wantBox(t, 0, key, 2, plain)} {
		if !refused(s, key, 2, box) {
			t.Errorf("%x opens", box)
		}
	}
}

// TestOpenSums: P6.3, who has the key makes boxes that open, of each number; but not of fewer than 24 bytes, nor of more than 2024.
func TestOpenSums(t *testing.T) {
	s := seal.New(false, api.Key{})
	key := api.Key{1}
	for _, n := range []uint64{0, 1, 255, 256, 0x0102030405060708, 1 << 56, 1 << 63, math.MaxUint64} {
		for _, length := range []int{0, 1, 17, 1999, 2000} {
			plain := probe.Bytes(n, length)
			if !opens(s, key, -2, wantBox(t, n, key, -2, plain), plain) {
				t.Errorf("%d, %d bytes: it doesn't open", n, length)
			}
		}
		for _, length := range []int{2001, 2002, 3000, 65536} {
			if !refused(s, key, -2, wantBox(t, n, key, -2, make([]byte, length))) {
				t.Errorf("%d, %d bytes: it opens", n, length)
			}
		}
	}
	secret := derive(key, "sum", 2)
	for length := range 8 { // with a right sum, but too few bytes ahead of it
		ahead := make([]byte, length)
		if !refused(s, key, 2, append(ahead, tail(secret[:], ahead)...)) {
			t.Errorf("%d bytes and a sum: it opens", length)
		}
	}
	for length := range 60 {
		if !refused(s, key, 2, make([]byte, length)) || !refused(s, key, 2, probe.Bytes(1, length)) {
			t.Errorf("%d bytes: they open", length)
		}
	}
	if !refused(s, key, 2, nil) || !refused(s, key, 2, symbolBox(0)) {
		t.Error("nothing, or a symbol, opens")
	}
}

// TestTerms: P6.4, all that was sealed by symbols, in order, what couldn't be sealed not among it.
func TestTerms(t *testing.T) {
	s := seal.New(true, api.Key{9})
	var want []string
	for i, usage := range uses {
		key, plain := api.Key(probe.Bytes(uint64(i), 16)), probe.Bytes(uint64(i), i*7%40)
		box := must(t, s, key, usage, plain)
		s.Seal(key, usage, make([]byte, 2001))
		s.Open(key, usage, box)
		s.Open(key, usage+1, box)
		s.Fresh()
		want = append(want, fmt.Sprintf("%x %d %x", key, usage, plain))
		var got []string
		for _, x := range s.Terms() {
			got = append(got, fmt.Sprintf("%x %d %x", x.Key, x.Usage, x.Plain))
		}
		if !slices.Equal(got, want) {
			t.Fatalf("%q, not %q", got, want)
		}
	}
}

// TestNoTerms: P6.4, by sums nothing is told.
func TestNoTerms(t *testing.T) {
	s := seal.New(false, api.Key{9})
	for i := range 5 {
		s.Open(api.Key{}, 2, must(t, s, s.Fresh(), i, []byte("secret")))
		if got := s.Terms(); len(got) != 0 {
			t.Fatalf("%d: %v", i, got)
		}
	}
}

// sealed is one text's box, of both kinds, and how it was sealed.
type sealed struct {
	key   int
	usage int
	plain []byte
	boxes [2][]byte
}

// pair is a sealer of each kind, with the keys that each one has drawn, and what both have sealed.
type pair struct {
	sealers [2]*seal.Sealer
	keys    [2][]api.Key
	made    []sealed
}

// draw draws a key of each kind.
func (p *pair) draw() {
	for k, s := range p.sealers {
		p.keys[k] = append(p.keys[k], s.Fresh())
	}
}

// seal seals the same by each kind.
func (p *pair) seal(t *testing.T, x sealed) {
	var errs [2]api.Errno
	for k, s := range p.sealers {
		x.boxes[k], errs[k] = s.Seal(p.keys[k][x.key], x.usage, x.plain)
	}
	if errs[0] != errs[1] {
		t.Errorf("%d bytes: %v, %v", len(x.plain), errs[0], errs[1])
	}
	if errs[0] == api.OK {
		p.made = append(p.made, x)
	}
}

// open opens a text's box under a key for a use by each kind.
func (p *pair) open(t *testing.T, x sealed, key, usage int) {
	right := key == x.key && usage == x.usage
	for k, s := range p.sealers {
		under := p.keys[k][key]
		if right && !opens(s, under, usage, x.boxes[k], x.plain) || !right && !refused(s, under, usage, x.boxes[k]) {
			t.Errorf("kind %d: %d bytes of %d, %d by %d, %d", k, len(x.plain), x.key, x.usage, key, usage)
		}
	}
}

// TestAlike: P6.5, both kinds answer the same errors and open to the same bytes, whatever is drawn, sealed and opened in which order.
func TestAlike(t *testing.T) {
	for seed := range uint64(40) {
		p := &pair{sealers: [2]*seal.Sealer{seal.New(true, api.Key{1}), seal.New(false, api.Key{1})}}
		p.draw()
		steps := probe.Bytes(seed, 900)
		for i := 0; i+3 <= len(steps); i += 3 {
			a, b, c := int(steps[i]), int(steps[i+1]), int(steps[i+2])
			key, usage := b%len(p.keys[0]), uses[c%len(uses)]
			switch {
			case a < 20:
				p.draw()
			case a < 90 || len(p.made) == 0:
				p.seal(t, sealed{key: key, usage: usage, plain: probe.Bytes(uint64(a), (a*256+c)%2100)})
			case a < 170:
				x := p.made[(a+b)%len(p.made)]
				p.open(t, x, x.key, x.usage)
			default:
				p.open(t, p.made[(a+b)%len(p.made)], key, usage)
			}
		}
		if p.sealers[0].Drawn() != p.sealers[1].Drawn() {
			t.Errorf("%d, %d drawn", p.sealers[0].Drawn(), p.sealers[1].Drawn())
		}
	}
}

// TestOpenedAgain: P6.3, a box opens as often as one likes, in any order, whatever is sealed in between.
func TestOpenedAgain(t *testing.T) {
	for _, symbols := range kinds {
		s := seal.New(symbols, api.Key{})
		var boxes [][]byte
		for n := range 30 {
			boxes = append(boxes, must(t, s, api.Key{2}, 2, []byte{byte(n)}))
			for k := range slices.Backward(boxes) {
				if !opens(s, api.Key{2}, 2, boxes[k], []byte{byte(k)}) {
					t.Fatalf("%v: %d behind %d", symbols, k, n)
				}
			}
		}
	}
}

// TestSealersApart: rule 6, each sealer has its own numbers, keys and boxes; by symbols a box is only what it names there.
func TestSealersApart(t *testing.T) {
	for _, symbols := range kinds {
		a, b := seal.New(symbols, api.Key{1}), seal.New(symbols, api.Key{2})
		key := api.Key{3}
		first := must(t, a, key, 2, []byte("a's first"))
		second := must(t, a, key, 2, []byte("a's second"))
		a.Fresh()
		other := must(t, b, key, 2, []byte("b's first"))
		if b.Drawn() != 0 || a.Drawn() != 1 {
			t.Errorf("%v: %d, %d drawn", symbols, a.Drawn(), b.Drawn())
		}
		if !bytes.Equal(other[:8], first[:8]) {
			t.Errorf("%v: %x, %x", symbols, first, other)
		}
		if !symbols {
			if !opens(b, key, 2, first, []byte("a's first")) || !opens(a, key, 2, other, []byte("b's first")) {
				t.Error("who has the key opens it")
			}
			continue
		}
		if !opens(b, key, 2, first, []byte("b's first")) || !refused(b, key, 2, second) {
			t.Error("a's box at b")
		}
		if len(a.Terms()) != 2 || len(b.Terms()) != 1 {
			t.Errorf("%d, %d terms", len(a.Terms()), len(b.Terms()))
		}
	}
}

// TestArgumentsStay: P6.6, nothing that is handed in is changed, its spare room neither, also where it is refused.
func TestArgumentsStay(t *testing.T) {
	for _, symbols := range kinds {
		s := seal.New(symbols, api.Key{})
		for _, length := range []int{0, 1, 16, 33, 2000, 2001} {
			text := string(probe.Bytes(6, length))
			plain, all := probe.Roomy(text)
			made, _ := s.Seal(api.Key{1}, 2, plain)
			if string(all) != text+probe.Spare {
				t.Errorf("%v, %d bytes: %q", symbols, length, all)
			}
			box, allBox := probe.Roomy(string(made))
			s.Open(api.Key{1}, 2, box)
			s.Open(api.Key{2}, 3, box)
			if string(allBox) != string(made)+probe.Spare {
				t.Errorf("%v, %d bytes: the box: %q", symbols, length, allBox)
			}
		}
	}
}

// TestNothingKept: P6.6, what is handed in and what is answered may be written over: later answers stay as they must be.
func TestNothingKept(t *testing.T) {
	for _, symbols := range kinds {
		s := seal.New(symbols, api.Key{})
		for n, length := range []int{0, 1, 16, 33, 2000} {
			text := string(probe.Bytes(6, length))
			plain, _ := probe.Roomy(text)
			box := must(t, s, api.Key{1}, 2, plain)
			kept := slices.Clone(box)
			probe.Spoil(plain)
			if !bytes.Equal(box, kept) {
				t.Errorf("%v, %d: the box is what was handed in", symbols, n)
			}
			opened, _ := s.Open(api.Key{1}, 2, box)
			again, _ := s.Open(api.Key{1}, 2, box)
			probe.Spoil(box)
			probe.Spoil(opened)
			if string(again) != text {
				t.Errorf("%v, %d: answers share memory: %x", symbols, n, again)
			}
			if !opens(s, api.Key{1}, 2, kept, []byte(text)) {
				t.Errorf("%v, %d: later", symbols, n)
			}
		}
	}
}

// TestTermsAreNew: P6.6, lists of terms share nothing, neither with each other, nor in one another, nor with the sealer.
func TestTermsAreNew(t *testing.T) {
	s := seal.New(true, api.Key{})
	for n := range 5 {
		must(t, s, api.Key{1}, 2, []byte{byte(n), 1, 2})
	}
	first, second := s.Terms(), s.Terms()
	for i := range first {
		probe.Spoil(first[i].Plain)
		for k := i + 1; k < len(first); k++ {
			if !bytes.Equal(first[k].Plain, []byte{byte(k), 1, 2}) {
				t.Errorf("%d spoils %d", i, k)
			}
		}
		first[i] = api.Term{}
	}
	_ = append(first, api.Term{Usage: 77})
	for n, x := range append(second, s.Terms()...) {
		if x.Key != (api.Key{1}) || x.Usage != 2 || !bytes.Equal(x.Plain, []byte{byte(n % 5), 1, 2}) {
			t.Errorf("%d: %v", n, x)
		}
	}
	if !opens(s, api.Key{1}, 2, symbolBox(3), []byte{3, 1, 2}) || len(s.Terms()) != 5 {
		t.Error("the sealer's own are spoilt")
	}
}

// TestNilIsEmpty: rule 4, no bytes and nil are one.
func TestNilIsEmpty(t *testing.T) {
	for _, symbols := range kinds {
		a, b := seal.New(symbols, api.Key{}), seal.New(symbols, api.Key{})
		if x, y := must(t, a, api.Key{1}, 2, nil), must(t, b, api.Key{1}, 2, []byte{}); !bytes.Equal(x, y) || !opens(a, api.Key{1}, 2, x, nil) {
			t.Errorf("%v: %x, %x", symbols, x, y)
		}
	}
}

// answers gives all that a sealer answers to texts.
func answers(symbols bool) []string {
	s := seal.New(symbols, api.Key{4})
	var out []string
	for text := range probe.Texts("\x00S\x80\xff", 5) {
		var key api.Key
		copy(key[:], text)
		fresh := s.Fresh()
		box, e := s.Seal(key, len(text)-2, []byte(text))
		plain, opened := s.Open(key, len(text)-2, []byte(text))
		again, reopened := s.Open(key, len(text)-2, box)
		other, refusal := s.Open(fresh, math.MinInt, append([]byte{83, 0, 0, 0}, text...))
		out = append(out, fmt.Sprintf("%x %x %d %x %d %x %d %x %d %d", fresh, box, e, plain, opened, again, reopened, other, refusal, s.Drawn()))
	}
	return append(out, fmt.Sprint(s.Terms()))
}

// TestAnyArguments: P1 and P2, each call ends, without a panic, and answers the same in a second run.
func TestAnyArguments(t *testing.T) {
	for _, symbols := range kinds {
		if first, again := answers(symbols), answers(symbols); !slices.Equal(first, again) {
			t.Errorf("%v: two runs part", symbols)
		}
	}
}

package sha_test

import (
	"bytes"
	"crypto/sha256"
	"encoding/hex"
	"strings"
	"testing"

	"gangway/api"
	"gangway/probe"
	"gangway/sha"
)

// TestKnown: P3.1, digests that the standard's examples and others' programs tell.
func TestKnown(t *testing.T) {
	for text, want := range map[string]string{
		"":    "e3b0c44298fc1c149afbf4c8996fb92427ae41e4649b934ca495991b7852b855",
		"abc": "ba7816bf8f01cfea414140de5dae2223b00361a396177a9cb410ff61f20015ad",
		"abcdbcdecdefdefgefghfghighijhijkijkljklmklmnlmnomnopnopq":                                                         "248d6a61d20638b8e5c026930c3e6039a33ce45964ff2167f6ecedd419db06c1",
		"abcdefghbcdefghicdefghijdefghijkefghijklfghijklmghijklmnhijklmnoijklmnopjklmnopqklmnopqrlmnopqrsmnopqrstnopqrstu": "cf5b16a778af8380036ce59e7b0492370b249b11e8f07a51afac45037afee9d1",
		"\xbd":                       "68325720aabd7c82f30f554b313d0570c95accbb7dc4b5aae11204c08ffe732b",
		strings.Repeat("\x00", 64):   "f5a5fd42d16a20302798ef6ed309979b43003d2320d9f0e8ea9831a92759fb4b",
		strings.Repeat("a", 1000000): "cdc76e5c9914fb9281a1c7e284d73e67f1809a48a497200e046d39ccc7112cd0",
	} {
		sum := sha.Sum([]byte(text))
		if got := hex.EncodeToString(sum[:]); got != want {
			t.Errorf("%.20q: %s", text, got)
		}
	}
	if sha.Sum(nil) != sha.Sum([]byte{}) {
		t.Error("nil and no bytes")
	}
}

// TestLengths: P3.1, texts of each length over the first blocks, and about the ones at which the bits' number takes one more byte.
func TestLengths(t *testing.T) {
	all := probe.Bytes(3, 1<<21+1)
	lengths := []int{8191, 8192, 8193, 1<<21 - 1, 1 << 21, 1<<21 + 1}
	for n := range 330 {
		lengths = append(lengths, n)
	}
	for _, n := range lengths {
		if got := sha.Sum(all[:n]); got != sha256.Sum256(all[:n]) {
			t.Errorf("%d: %x", n, got)
		}
	}
}

// TestManyBits: P3.1, the number of bits takes more than 4 of its 8 bytes.
func TestManyBits(t *testing.T) {
	if testing.Short() {
		t.Skip("takes some seconds")
	}
	piece := probe.Bytes(5, 1<<20)
	h, want := sha.New(), sha256.New()
	for range 1 << 9 {
		h.Add(piece)
		want.Write(piece)
	}
	h.Add(piece[:77])
	want.Write(piece[:77])
	if got := h.Sum(); !bytes.Equal(got[:], want.Sum(nil)) {
		t.Errorf("%x", got)
	}
}

// TestEachBit: P3.1, each bit that is turned gives another digest, and the right one.
func TestEachBit(t *testing.T) {
	data := probe.Bytes(9, 119) // with what stands behind: two blocks, and one byte less would do for the first one's end
	met := map[api.Hash]int{sha.Sum(data): -1}
	for bit := range len(data) * 8 {
		data[bit/8] ^= 1 << (bit % 8)
		got := sha.Sum(data)
		if got != sha256.Sum256(data) {
			t.Errorf("%d: %x", bit, got)
		}
		if before, is := met[got]; is {
			t.Errorf("%d: as %d", bit, before)
		}
		met[got] = bit
		data[bit/8] ^= 1 << (bit % 8)
	}
}

// TestHasherPieces: P3.2, a text in two pieces, cut at each place, and byte by byte.
func TestHasherPieces(t *testing.T) {
	for _, n := range []int{0, 1, 3, 55, 56, 63, 64, 65, 127, 128, 129, 200} {
		data := probe.Bytes(uint64(n), n)
		want := sha256.Sum256(data)
		for cut := range n + 1 {
			h := sha.New()
			h.Add(data[:cut])
			h.Add(nil)
			h.Add(data[cut:])
			if got := h.Sum(); got != want {
				t.Errorf("%d cut at %d: %x", n, cut, got)
			}
		}
		h := sha.New()
		for i := range data {
			h.Add(data[i : i+1])
		}
		if got := h.Sum(); got != want {
			t.Errorf("%d byte by byte: %x", n, got)
		}
	}
}

// TestHasherEmpty: P3.2, a hasher to which nothing came, or nothing but empty pieces.
func TestHasherEmpty(t *testing.T) {
	want := sha256.Sum256(nil)
	h := sha.New()
	if got := h.Sum(); got != want {
		t.Errorf("new: %x", got)
	}
	h.Add(nil)
	h.Add([]byte{})
	if got := h.Sum(); got != want {
		t.Errorf("empty pieces: %x", got)
	}
}

// TestHasherSumStays: P3.2, Sum changes nothing: behind it more may come, and it may be asked again.
func TestHasherSumStays(t *testing.T) {
	data := probe.Bytes(1, 400)
	for step := 1; step < 70; step += 3 {
		h := sha.New()
		for at := 0; at < len(data); at += step {
			end := min(at+step, len(data))
			h.Add(data[at:end])
			want := sha256.Sum256(data[:end])
			if a, b := h.Sum(), h.Sum(); a != want || b != want {
				t.Fatalf("%d, %d: %x, %x", step, end, a, b)
			}
		}
	}
}

// TestHashersApart: P3.2, what comes to one hasher isn't seen in another one.
func TestHashersApart(t *testing.T) {
	a, b := sha.New(), sha.New()
	x, y := probe.Bytes(1, 300), probe.Bytes(2, 300)
	for i := range x {
		a.Add(x[i : i+1])
		b.Add(y[i : i+1])
		if i%7 == 0 {
			a.Sum()
		}
	}
	if got := a.Sum(); got != sha256.Sum256(x) {
		t.Errorf("the first: %x", got)
	}
	if got := b.Sum(); got != sha256.Sum256(y) {
		t.Errorf("the second: %x", got)
	}
	if got := sha.New().Sum(); got != sha256.Sum256(nil) {
		t.Errorf("a third: %x", got)
	}
}

// TestArgumentsStay: P3.3, nothing that is handed in is changed, its spare room neither.
func TestArgumentsStay(t *testing.T) {
	for _, n := range []int{0, 2, 55, 56, 64, 100, 128} {
		text := string(probe.Bytes(4, n))
		data, all := probe.Roomy(text)
		sha.Sum(data)
		h := sha.New()
		h.Add(data)
		h.Sum()
		h.Add(data)
		h.Sum()
		if string(all) != text+probe.Spare {
			t.Errorf("%d: %q", n, all)
		}
	}
}

// TestNothingKept: P3.3, what came may be written over behind the call.
func TestNothingKept(t *testing.T) {
	for _, n := range []int{1, 63, 64, 65, 130} {
		data := probe.Bytes(6, n)
		twice := append(bytes.Clone(data), data...)
		h := sha.New()
		buffer := bytes.Clone(data)
		h.Add(buffer)
		probe.Spoil(buffer)
		copy(buffer, data)
		h.Add(buffer)
		probe.Spoil(buffer)
		if got := h.Sum(); got != sha256.Sum256(twice) {
			t.Errorf("%d: %x", n, got)
		}
	}
}

// TestAnyArguments: P1 and P2, each call ends, without a panic, and answers the same in a second run.
func TestAnyArguments(t *testing.T) {
	run := func() []api.Hash {
		var out []api.Hash
		h := sha.New()
		for s := range probe.Texts("\x00\x80\xffa", 5) {
			h.Add([]byte(s))
			out = append(out, sha.Sum([]byte(s)), h.Sum())
		}
		return out
	}
	first := run()
	for i, got := range run() {
		if got != first[i] {
			t.Fatalf("%d: %x, at first %x", i, got, first[i])
		}
	}
}

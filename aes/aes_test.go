package aes_test

import (
	"bytes"
	stdaes "crypto/aes"
	"crypto/cipher"
	"encoding/hex"
	"math"
	"testing"

	"gangway/aes"
	"gangway/api"
	"gangway/probe"
)

// wantBlock gives what Block must give, by the library.
func wantBlock(t *testing.T, key api.Key, in [16]byte) [16]byte {
	t.Helper()
	c, err := stdaes.NewCipher(key[:])
	if err != nil {
		t.Fatal(err)
	}
	var out [16]byte
	c.Encrypt(out[:], in[:])
	return out
}

// wantStream gives what Stream must give, by the library.
func wantStream(t *testing.T, key api.Key, nonce uint64, data []byte) []byte {
	t.Helper()
	c, err := stdaes.NewCipher(key[:])
	if err != nil {
		t.Fatal(err)
	}
	start := make([]byte, 16)
	for i := range 8 {
		start[i] = byte(nonce >> (56 - 8*i))
	}
	out := make([]byte, len(data))
	cipher.NewCTR(c, start).XORKeyStream(out, data)
	return out
}

// read gives the block of a text of hexadecimal digits.
func read(t *testing.T, s string) [16]byte {
	t.Helper()
	b, err := hex.DecodeString(s)
	if err != nil || len(b) != 16 {
		t.Fatalf("%q: %v", s, err)
	}
	return [16]byte(b)
}

// TestKnown: P5.1, the blocks that the standard's examples tell, and some of others.
func TestKnown(t *testing.T) {
	tests := []struct{ key, in, out string }{
		{"000102030405060708090a0b0c0d0e0f", "00112233445566778899aabbccddeeff", "69c4e0d86a7b0430d8cdb78070b4c55a"},
		{"2b7e151628aed2a6abf7158809cf4f3c", "3243f6a8885a308d313198a2e0370734", "3925841d02dc09fbdc118597196a0b32"},
		{"2b7e151628aed2a6abf7158809cf4f3c", "6bc1bee22e409f96e93d7e117393172a", "3ad77bb40d7a3660a89ecaf32466ef97"},
		{"2b7e151628aed2a6abf7158809cf4f3c", "f69f2445df4f9b17ad2b417be66c3710", "7b0c785e27e8ad3f8223207104725dd4"},
		{"00000000000000000000000000000000", "00000000000000000000000000000000", "66e94bd4ef8a2c3b884cfa59ca342b2e"},
		{"00000000000000000000000000000000", "80000000000000000000000000000000", "3ad78e726c1ec02b7ebfe92b23d9ec34"},
		{"80000000000000000000000000000000", "00000000000000000000000000000000", "0edd33d3c621e546455bd8ba1418bec8"},
		{"ffffffffffffffffffffffffffffffff", "00000000000000000000000000000000", "a1f6258c877d5fcd8964484538bfc92c"},
	}
	for i, x := range tests {
		if got := aes.New(read(t, x.key)).Block(read(t, x.in)); got != read(t, x.out) {
			t.Errorf("%d: %x", i, got)
		}
	}
}

// TestBlocks: P5.1, against the library: each byte's value at each place of the block and of the key.
func TestBlocks(t *testing.T) {
	key, in := api.Key(probe.Bytes(1, 16)), [16]byte(probe.Bytes(2, 16))
	for place := range 16 {
		for value := range 256 {
			k, b := key, in
			k[place] = byte(value)
			b[place] = byte(value)
			for _, x := range []struct {
				key api.Key
				in  [16]byte
			}{{key, b}, {k, in}, {k, b}} {
				if got := aes.New(x.key).Block(x.in); got != wantBlock(t, x.key, x.in) {
					t.Fatalf("%x, %x: %x", x.key, x.in, got)
				}
			}
		}
	}
}

// TestChain: P5.1, blocks and keys that are made of the ones ahead.
func TestChain(t *testing.T) {
	var key api.Key
	var block [16]byte
	for i := range 2000 {
		got := aes.New(key).Block(block)
		if got != wantBlock(t, key, block) {
			t.Fatalf("%d: %x", i, got)
		}
		block = got
		if i%3 == 0 {
			key = api.Key(got)
		}
	}
}

// TestStreamLengths: P5.2, data of each length over the first blocks.
func TestStreamLengths(t *testing.T) {
	key := api.Key(probe.Bytes(3, 16))
	c := aes.New(key)
	all := probe.Bytes(4, 100)
	for n := range len(all) + 1 {
		for _, nonce := range []uint64{0, 1, 256, 0x0102030405060708, 1 << 63, math.MaxUint64} {
			got := c.Stream(nonce, all[:n])
			if !bytes.Equal(got, wantStream(t, key, nonce, all[:n])) {
				t.Errorf("%d, %d: %x", n, nonce, got)
			}
		}
	}
	if got := c.Stream(5, nil); len(got) != 0 {
		t.Errorf("nil: %x", got)
	}
}

// TestStreamLong: P5.2, so many blocks that their number takes three bytes.
func TestStreamLong(t *testing.T) {
	key := api.Key(probe.Bytes(5, 16))
	data := probe.Bytes(6, 1<<20+40)
	if !bytes.Equal(aes.New(key).Stream(math.MaxUint64, data), wantStream(t, key, math.MaxUint64, data)) {
		t.Error("they part")
	}
}

// TestStreamBlocks: P5.2, the stream of noughts is the blocks of the nonce and the numbers from 0 on.
func TestStreamBlocks(t *testing.T) {
	c := aes.New(api.Key{7})
	got := c.Stream(0x0102030405060708, make([]byte, 16*300))
	for i := range 300 {
		in := [16]byte{1, 2, 3, 4, 5, 6, 7, 8, 14: byte(i >> 8), 15: byte(i)}
		if want := c.Block(in); [16]byte(got[16*i:]) != want {
			t.Errorf("%d: %x, not %x", i, got[16*i:16*i+16], want)
		}
	}
}

// TestStreamBack: P5.2, the stream of a stream, by the same number, is the data; by another one it isn't.
func TestStreamBack(t *testing.T) {
	c := aes.New(api.Key(probe.Bytes(7, 16)))
	data := probe.Bytes(8, 77)
	turned := c.Stream(12, data)
	if bytes.Equal(turned, data) || !bytes.Equal(c.Stream(12, turned), data) {
		t.Error("the same number")
	}
	for _, nonce := range []uint64{0, 11, 13, 12 << 8, 12 << 56, 12 | 1<<63} {
		if bytes.Equal(c.Stream(nonce, turned), data) {
			t.Errorf("%d", nonce)
		}
	}
}

// TestCiphersApart: P5.1 and P5.2, a cipher's answers hang on its own key, and not on what it was asked ahead.
func TestCiphersApart(t *testing.T) {
	keyA, keyB := api.Key{1}, api.Key{2}
	a, b := aes.New(keyA), aes.New(keyB)
	for i := range 50 {
		in := [16]byte(probe.Bytes(uint64(i), 16))
		data := probe.Bytes(uint64(i), i)
		a.Stream(uint64(i), data)
		if got := a.Block(in); got != wantBlock(t, keyA, in) {
			t.Errorf("the first, %d: %x", i, got)
		}
		if got := b.Block(in); got != wantBlock(t, keyB, in) {
			t.Errorf("the second, %d: %x", i, got)
		}
		if got := b.Stream(uint64(i), data); !bytes.Equal(got, wantStream(t, keyB, uint64(i), data)) {
			t.Errorf("the second's stream, %d: %x", i, got)
		}
	}
}

// TestArgumentsStay: P5.3, nothing that is handed in is changed, its spare room neither.
func TestArgumentsStay(t *testing.T) {
	key, block := api.Key{1, 2, 3}, [16]byte{4, 5, 6}
	c := aes.New(key)
	c.Block(block)
	if key != (api.Key{1, 2, 3}) || block != [16]byte{4, 5, 6} {
		t.Errorf("%x, %x", key, block)
	}
	for _, n := range []int{0, 1, 15, 16, 17, 40} {
		text := string(probe.Bytes(9, n))
		data, all := probe.Roomy(text)
		c.Stream(3, data)
		if string(all) != text+probe.Spare {
			t.Errorf("%d: %q", n, all)
		}
	}
}

// TestAnswersAreNew: P5.3, answers share nothing with what was handed in, nor with each other.
func TestAnswersAreNew(t *testing.T) {
	key := api.Key{9}
	c := aes.New(key)
	key[0] = 8
	for _, n := range []int{0, 1, 16, 33} {
		text := string(probe.Bytes(9, n))
		data, all := probe.Roomy(text)
		want := wantStream(t, api.Key{9}, 3, data)
		a, b := c.Stream(3, data), c.Stream(3, data)
		probe.Spoil(a)
		if string(all) != text+probe.Spare {
			t.Errorf("%d: the answer is what was handed in: %q", n, all)
		}
		probe.Spoil(data)
		if !bytes.Equal(b, want) {
			t.Errorf("%d: %x", n, b)
		}
		if again := c.Stream(3, []byte(text)); !bytes.Equal(again, want) {
			t.Errorf("%d: later: %x", n, again)
		}
	}
}

// TestAnyArguments: P1 and P2, each call ends, without a panic, and answers the same in a second run.
func TestAnyArguments(t *testing.T) {
	run := func() [][]byte {
		var out [][]byte
		for s := range probe.Texts("\x00a\x80\xff", 5) {
			var key api.Key
			copy(key[:], s)
			c := aes.New(key)
			block := c.Block([16]byte(key))
			out = append(out, block[:], c.Stream(uint64(len(s))<<60, []byte(s)))
		}
		return out
	}
	first := run()
	for i, got := range run() {
		if !bytes.Equal(got, first[i]) {
			t.Fatalf("%d: %x, at first %x", i, got, first[i])
		}
	}
}

package mac_test

import (
	"bytes"
	"crypto/hmac"
	"crypto/sha256"
	"encoding/hex"
	"math"
	"reflect"
	"strings"
	"testing"
	"unsafe"

	"gangway/api"
	"gangway/mac"
	"gangway/probe"
)

// want gives what Sum must give, by the library.
func want(secret, data []byte) api.Hash {
	h := hmac.New(sha256.New, secret)
	h.Write(data)
	return api.Hash(h.Sum(nil))
}

// wantKey gives the first 16 bytes of what Sum must give.
func wantKey(secret []byte, data ...byte) api.Key {
	sum := want(secret, data)
	return api.Key(sum[:16])
}

// TestSumKnown: P4.1, the sums that RFC 4231 tells.
func TestSumKnown(t *testing.T) {
	long := strings.Repeat("\xaa", 131)
	tests := []struct{ secret, data, want string }{
		{strings.Repeat("\x0b", 20), "Hi There", "b0344c61d8db38535ca8afceaf0bf12b881dc200c9833da726e9376c2e32cff7"},
		{"Jefe", "what do ya want for nothing?", "5bdcc146bf60754e6a042426089575c75a003f089d2739839dec58b964ec3843"},
		{strings.Repeat("\xaa", 20), strings.Repeat("\xdd", 50), "773ea91e36800e46854db8ebd09181a72959098b3ef8c122d9635514ced565fe"},
		{long, "Test Using Larger Than Block-Size Key - Hash Key First", "60e431591ee0b67f0d8a26aacbf5b77f8e0bc6213728c5140546040f0ee37f54"},
		{long, "This is a test using a larger than block-size key and a larger than block-size data. The key needs to be hashed before being used by the HMAC algorithm.", "9b09ffa71b942fcb27635fbcd5b0e944bfdc63644f0713938a7f51535c3a35e2"},
		{"", "", "b613679a0814d9ec772f95d778c35fc5ff1697c493715653c6c712144292c5ad"},
	}
	for i, x := range tests {
		sum := mac.Sum([]byte(x.secret), []byte(x.data))
		if got := hex.EncodeToString(sum[:]); got != x.want {
			t.Errorf("%d: %s", i, got)
		}
	}
	if mac.Sum(nil, nil) != mac.Sum([]byte{}, []byte{}) {
		t.Error("nil and no bytes")
	}
}

// TestSumLengths: P4.1, secrets and data of each length about the blocks' ends; at 64 bytes the secret itself counts, at 65 its digest.
func TestSumLengths(t *testing.T) {
	all := probe.Bytes(2, 400)
	for n := range 200 {
		for _, m := range []int{0, 1, 54, 55, 56, 63, 64, 65, 119, 120, 128, 200} {
			secret, data := all[:n], all[200:200+m]
			if got := mac.Sum(secret, data); got != want(secret, data) {
				t.Errorf("%d, %d: %x", n, m, got)
			}
		}
	}
}

// TestSumParts: P4.1, what is the secret's and what the data's counts, and each bit does.
func TestSumParts(t *testing.T) {
	text := probe.Bytes(8, 70)
	met := map[api.Hash]int{}
	for cut := range len(text) + 1 {
		met[mac.Sum(text[:cut], text[cut:])] = cut
	}
	secret, data := text[:40], text[40:]
	for bit := range len(text) * 8 {
		text[bit/8] ^= 1 << (bit % 8)
		met[mac.Sum(secret, data)] = 1000 + bit
		text[bit/8] ^= 1 << (bit % 8)
	}
	if len(met) != 71+70*8 {
		t.Errorf("%d sums", len(met))
	}
}

// TestEqual: P4.2.
func TestEqual(t *testing.T) {
	for s := range probe.Texts("\x00\x01\xff", 4) {
		for r := range probe.Texts("\x00\x01\xff", 4) {
			if got := mac.Equal([]byte(s), []byte(r)); got != (s == r) {
				t.Fatalf("%q, %q: %v", s, r, got)
			}
		}
	}
	if !mac.Equal(nil, nil) || !mac.Equal(nil, []byte{}) || !mac.Equal([]byte{}, nil) {
		t.Error("nil and no bytes")
	}
	if mac.Equal(nil, []byte{0}) || mac.Equal([]byte{0}, nil) {
		t.Error("nil and a nought")
	}
}

// TestEqualBits: P4.2, each bit by which texts part, and several at once.
func TestEqualBits(t *testing.T) {
	a := probe.Bytes(4, 300)
	b := bytes.Clone(a)
	if !mac.Equal(a, b) || !mac.Equal(a, a) {
		t.Error("the same bytes")
	}
	for bit := range len(a) * 8 {
		b[bit/8] ^= 1 << (bit % 8)
		if mac.Equal(a, b) || mac.Equal(b, a) {
			t.Errorf("bit %d", bit)
		}
		b[(bit/8+1)%len(b)] ^= 1 << (bit % 8) // the same bit of two bytes
		if mac.Equal(a, b) {
			t.Errorf("bit %d, twice", bit)
		}
		copy(b, a)
	}
	if mac.Equal(a, a[:299]) || mac.Equal(a[:299], a) || mac.Equal(a[1:], a[:299]) {
		t.Error("other lengths")
	}
}

// TestDerive: P4.3.
func TestDerive(t *testing.T) {
	numbers := map[uint64]string{
		0: "", 1: "\x01", 255: "\xff", 256: "\x01\x00", 65536: "\x01\x00\x00", 0x0102030405060708: "\x01\x02\x03\x04\x05\x06\x07\x08",
		1 << 63: "\x80\x00\x00\x00\x00\x00\x00\x00", math.MaxUint64: "\xff\xff\xff\xff\xff\xff\xff\xff",
	}
	keys := []api.Key{{}, {1}, {15: 1}, api.Key(probe.Bytes(1, 16)), api.Key(bytes.Repeat([]byte{0xff}, 16))}
	labels := []string{"", "seal", "sum", "fresh", "\x00", "a\x00", "\xff\xfe", strings.Repeat("label ", 50)}
	met := map[api.Key]int{}
	for _, key := range keys {
		for _, label := range labels {
			for n, text := range numbers {
				got := mac.Derive(key, label, n)
				if got != wantKey(key[:], []byte(label+"\x00"+text)...) {
					t.Errorf("%x, %.10q, %d: %x", key, label, n, got)
				}
				met[got]++
			}
		}
	}
	if len(met) != len(keys)*len(labels)*len(numbers) {
		t.Errorf("%d keys", len(met))
	}
}

// TestDeriveKnown: P4.3, one key that another program has told.
func TestDeriveKnown(t *testing.T) {
	key := api.Key{0, 1, 2, 3, 4, 5, 6, 7, 8, 9, 10, 11, 12, 13, 14, 15}
	for label, want := range map[string]string{"seal": "71a32e049799394f9fb5192b39324982", "": "bec9dc36b101fbc1e3731886189ede0d"} {
		got := mac.Derive(key, label, 258)
		if hex.EncodeToString(got[:]) != want {
			t.Errorf("%q: %x", label, got)
		}
	}
}

// TestPassword: P4.3.
func TestPassword(t *testing.T) {
	words := []string{"", "a", "ann's word", "\x00", "\x00\xff", strings.Repeat("w", 64), strings.Repeat("w", 65), strings.Repeat("long ", 100)}
	salts := []string{"", "a", "LANDann", "\x00", "\xff\x00", strings.Repeat("s", 64), strings.Repeat("salt ", 100)}
	for _, word := range words {
		for _, salt := range salts {
			p := wantKey([]byte(word), []byte(salt)...)
			for range 8 {
				p = wantKey([]byte(word), p[:]...)
			}
			if got := mac.Password(word, salt); got != p {
				t.Errorf("%.10q, %.10q: %x", word, salt, got)
			}
		}
	}
}

// TestPasswordKnown: P4.3, one key that another program has told.
func TestPasswordKnown(t *testing.T) {
	got := mac.Password("ann's word", "LANDann")
	if hex.EncodeToString(got[:]) != "edb7e682436faca3cb3afb7107476dc3" {
		t.Errorf("%x", got)
	}
}

// TestArgumentsStay: P4.4, nothing that is handed in is changed, its spare room neither.
func TestArgumentsStay(t *testing.T) {
	for _, n := range []int{0, 3, 63, 64, 65, 130} {
		text := string(probe.Bytes(4, n))
		secret, allSecret := probe.Roomy(text)
		data, allData := probe.Roomy(text)
		mac.Sum(secret, data)
		mac.Sum(data, data)
		mac.Equal(secret, data)
		if string(allSecret) != text+probe.Spare || string(allData) != text+probe.Spare {
			t.Errorf("%d: %q, %q", n, allSecret, allData)
		}
	}
}

// TestNothingKept: P4.4, what was handed in may be written over behind the call, and doesn't change what the next one answers.
func TestNothingKept(t *testing.T) {
	secret, data := []byte("secret"), []byte("data")
	first := mac.Sum(secret, data)
	probe.Spoil(secret)
	probe.Spoil(data)
	if first != want([]byte("secret"), []byte("data")) || mac.Sum(secret, data) != want(secret, data) {
		t.Error("Sum")
	}
	buffer := []byte("labels and words")
	text := unsafe.String(&buffer[0], len(buffer))
	key, word := mac.Derive(api.Key{1}, text, 2), mac.Password(text, text)
	probe.Spoil(buffer)
	if again := mac.Derive(api.Key{1}, "labels and words", 2); key != again {
		t.Errorf("Derive: %x, %x", key, again)
	}
	if again := mac.Password("labels and words", "labels and words"); word != again {
		t.Errorf("Password: %x, %x", word, again)
	}
	if got := mac.Derive(api.Key{1}, text, 2); got == key {
		t.Errorf("Derive of another label: %x", got)
	}
}

// answers gives all that the calls answer to a text.
func answers(s string) [6]any {
	half := len(s) / 2
	secret, data := []byte(s[:half]), []byte(s[half:])
	var key api.Key
	copy(key[:], s)
	return [6]any{
		mac.Sum(secret, data), mac.Sum(data, secret), mac.Equal(secret, data),
		mac.Derive(key, s, uint64(len(s))), mac.Derive(key, s[:half], math.MaxUint64), mac.Password(s[:half], s[half:]),
	}
}

// TestAnyArguments: P1 and P2, each call ends, without a panic, and answers the same in a second run.
func TestAnyArguments(t *testing.T) {
	const alphabet, most = "\x00a\x80\xff", 5
	if s, parts := probe.Parting(probe.Texts(alphabet, most), answers, reflect.DeepEqual); parts {
		t.Errorf("%q: two runs part", s)
	}
}

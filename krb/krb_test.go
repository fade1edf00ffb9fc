package krb_test

import (
	"bytes"
	"encoding/binary"
	"fmt"
	"math"
	"reflect"
	"slices"
	"strings"
	"testing"
	"unsafe"

	"gangway/api"
	"gangway/krb"
	"gangway/probe"
)

const last = 1 << 40 // the greatest time

// has gives the tags of the fields of each kind, but the kind's own.
var has = map[int][]byte{
	1: {32, 33, 34, 35, 36},
	2: {33, 34, 35, 36, 37, 38},
	3: {34, 37, 38},
	4: {34, 37, 38},
	5: {34, 38},
	6: {34, 38},
	7: {34, 39},
}

// values gives the values of all fields by their tags.
func values(m api.Krb) map[byte]string {
	return map[byte]string{
		31: probe.Num(uint64(m.Kind)), 32: m.Client, 33: m.Server, 34: probe.Num(m.Nonce), 35: probe.Num(uint64(m.End)), 36: probe.Num(uint64(m.Flags)),
		37: string(m.Ticket), 38: string(m.Sealed), 39: probe.Num(uint64(m.Code)),
	}
}

// want gives the bytes of a message.
func want(m api.Krb) string {
	v := values(m)
	all := probe.Field(31, v[31])
	for _, tag := range has[m.Kind] {
		all += probe.Field(tag, v[tag])
	}
	return all
}

// show tells of a message, but not at length.
func show(m api.Krb) string {
	s := fmt.Sprintf("%+v", m)
	return s[:min(len(s), 300)]
}

// plain gives an ordinary message of each kind, by its number.
func plain() map[int]api.Krb {
	return map[int]api.Krb{
		1: {Kind: 1, Client: "ann@LAND", Server: "krbtgt/LAND@LAND", Nonce: 9, End: 300, Flags: 1},
		2: {Kind: 2, Server: "host/s1@LAND", Nonce: 10, End: 299, Flags: 2, Ticket: []byte("tgt"), Sealed: []byte("auth")},
		3: {Kind: 3, Nonce: 11, Ticket: []byte("ticket"), Sealed: []byte("grant")},
		4: {Kind: 4, Nonce: 12, Ticket: []byte("ticket"), Sealed: []byte("auth")},
		5: {Kind: 5, Nonce: 13, Sealed: []byte("reply")},
		6: {Kind: 6, Nonce: 14, Sealed: []byte("data")},
		7: {Kind: 7, Nonce: 15, Code: 66},
	}
}

// change is what makes one message of another.
type change func(*api.Krb)

// rights gives what may be done to a field, by its tag, so that a message that has the field stays right.
func rights() map[byte][]change {
	all := map[byte][]change{}
	for _, n := range probe.Names() {
		all[32] = append(all[32], func(m *api.Krb) { m.Client = n })
		all[33] = append(all[33], func(m *api.Krb) { m.Server = n })
	}
	for _, n := range []uint64{0, 1, 255, 256, 1 << 40, 1<<63 - 1, 1 << 63, math.MaxUint64} {
		all[34] = append(all[34], func(m *api.Krb) { m.Nonce = n })
	}
	for _, n := range []int64{0, 1, 255, 256, last - 1, last} {
		all[35] = append(all[35], func(m *api.Krb) { m.End = n })
	}
	for n := range 4 {
		all[36] = append(all[36], func(m *api.Krb) { m.Flags = n })
	}
	for _, n := range []int{0, 1, 255, 256, 2999, 3000} {
		all[37] = append(all[37], func(m *api.Krb) { m.Ticket = probe.Bytes(1, n) })
		all[38] = append(all[38], func(m *api.Krb) { m.Sealed = probe.Bytes(2, n) })
	}
	for _, n := range []int{1, 2, 66, 255, 256, 998, 999} {
		all[39] = append(all[39], func(m *api.Krb) { m.Code = n })
	}
	return all
}

// wrongs gives what may be done to a field, by its tag, so that no message that has the field is right.
func wrongs() map[byte][]change {
	all := map[byte][]change{}
	for _, n := range probe.NotNames() {
		all[32] = append(all[32], func(m *api.Krb) { m.Client = n })
		all[33] = append(all[33], func(m *api.Krb) { m.Server = n })
	}
	for _, n := range []int64{-1, -256, last + 1, 2 * last, math.MaxInt64, math.MinInt64} {
		all[35] = append(all[35], func(m *api.Krb) { m.End = n })
	}
	for _, n := range []int{-1, -4, 4, 5, 8, 256, math.MaxInt, math.MinInt} {
		all[36] = append(all[36], func(m *api.Krb) { m.Flags = n })
	}
	for _, n := range []int{3001, 4000, 65535, 65536, 70000} {
		all[37] = append(all[37], func(m *api.Krb) { m.Ticket = probe.Bytes(1, n) })
		all[38] = append(all[38], func(m *api.Krb) { m.Sealed = probe.Bytes(2, n) })
	}
	for _, n := range []int{0, -1, -66, 1000, 1001, 65536 + 66, math.MaxInt, math.MinInt} {
		all[39] = append(all[39], func(m *api.Krb) { m.Code = n })
	}
	return all
}

// fills gives what may be done to a field, by its tag, so that it isn't empty any more.
func fills() map[byte][]change {
	all := map[byte][]change{}
	for _, table := range []map[byte][]change{rights(), wrongs()} {
		for tag, changes := range table {
			for _, c := range changes {
				var m api.Krb
				c(&m)
				if !probe.SameKrb(m, api.Krb{}) {
					all[tag] = append(all[tag], c)
				}
			}
		}
	}
	return all
}

// right looks whether a message is right, is written as it must be, and is read back.
func right(t *testing.T, m api.Krb) {
	t.Helper()
	if e := krb.Check(m); e != api.OK {
		t.Errorf("%s: Check: %v", show(m), e)
	}
	b, e := krb.Write(m)
	if e != api.OK || string(b) != want(m) {
		t.Errorf("%s: Write: %.200q, %v", show(m), b, e)
	}
	if got, e := krb.Read([]byte(want(m))); e != api.OK || !probe.SameKrb(got, m) {
		t.Errorf("%s: Read: %s, %v", show(m), show(got), e)
	}
}

// wrong looks whether a message isn't right, and is not written.
func wrong(t *testing.T, m api.Krb) {
	t.Helper()
	if e := krb.Check(m); e != api.ErrArg {
		t.Errorf("%s: Check: %v", show(m), e)
	}
	if b, e := krb.Write(m); e != api.ErrArg || len(b) != 0 {
		t.Errorf("%s: Write: %.200q, %v", show(m), b, e)
	}
}

// refused looks whether bytes are not read.
func refused(t *testing.T, b string) {
	t.Helper()
	if m, e := krb.Read([]byte(b)); e != api.ErrForm || !reflect.DeepEqual(m, api.Krb{}) {
		t.Errorf("%.200q: %s, %v", b, show(m), e)
	}
}

// TestRight: P8.1 and P8.2, each kind with what its fields may have.
func TestRight(t *testing.T) {
	for kind, m := range plain() {
		right(t, m)
		for _, tag := range has[kind] {
			for _, c := range rights()[tag] {
				x := m
				c(&x)
				right(t, x)
			}
		}
	}
}

// TestEmptyLists: P8.1 and P8.2, a list without elements is as none, in kinds that have it and in others.
func TestEmptyLists(t *testing.T) {
	for _, m := range plain() {
		for _, empty := range [][]byte{nil, {}, make([]byte, 0, 9)} {
			m.Ticket, m.Sealed = empty, empty
			right(t, m)
		}
	}
}

// TestKnown: P8.1 and P8.2, bytes that are written out here.
func TestKnown(t *testing.T) {
	for s, m := range map[string]api.Krb{
		"\x1f\x00\x01\x07\x22\x00\x01\x05\x27\x00\x01\x42":                                                               {Kind: api.KrbError, Nonce: 5, Code: 66},
		"\x1f\x00\x01\x06\x22\x00\x00\x26\x00\x02hi":                                                                     {Kind: api.KrbData, Sealed: []byte("hi")},
		"\x1f\x00\x01\x05\x22\x00\x02\x01\x00\x26\x00\x00":                                                               {Kind: api.KrbApRep, Nonce: 256},
		"\x1f\x00\x01\x04\x22\x00\x01\x01\x25\x00\x01t\x26\x00\x02ab":                                                    {Kind: api.KrbApReq, Nonce: 1, Ticket: []byte("t"), Sealed: []byte("ab")},
		"\x1f\x00\x01\x03\x22\x00\x01\x01\x25\x00\x00\x26\x00\x00":                                                       {Kind: api.KrbRep, Nonce: 1},
		"\x1f\x00\x01\x02\x21\x00\x03a@R\x22\x00\x01\x01\x23\x00\x01\x02\x24\x00\x01\x03\x25\x00\x01t\x26\x00\x01s":      {Kind: api.KrbTgsReq, Server: "a@R", Nonce: 1, End: 2, Flags: 3, Ticket: []byte("t"), Sealed: []byte("s")},
		"\x1f\x00\x01\x01\x20\x00\x03a@R\x21\x00\x03b@R\x22\x00\x01\x01\x23\x00\x06\x01\x00\x00\x00\x00\x00\x24\x00\x00": {Kind: api.KrbAsReq, Client: "a@R", Server: "b@R", Nonce: 1, End: last},
	} {
		if b, e := krb.Write(m); e != api.OK || string(b) != s {
			t.Errorf("%+v: %q, %v", m, b, e)
		}
		if got, e := krb.Read([]byte(s)); e != api.OK || !probe.SameKrb(got, m) {
			t.Errorf("%q: %+v, %v", s, got, e)
		}
	}
}

// TestWrong: P8.1 and P8.2, each kind with what its fields may not have; nor is it read, as it would be written.
func TestWrong(t *testing.T) {
	for kind, m := range plain() {
		for _, tag := range has[kind] {
			for _, c := range wrongs()[tag] {
				x := m
				c(&x)
				wrong(t, x)
				refused(t, want(x))
			}
		}
	}
}

// TestFieldsOfOthers: P8.1, each kind with a field that it hasn't.
func TestFieldsOfOthers(t *testing.T) {
	for kind, m := range plain() {
		for tag := byte(32); tag <= 39; tag++ {
			if slices.Contains(has[kind], tag) {
				continue
			}
			for _, c := range fills()[tag] {
				x := m
				c(&x)
				wrong(t, x)
			}
		}
	}
}

// TestNoKinds: P8.1 and P8.2, what is none of the kinds.
func TestNoKinds(t *testing.T) {
	all := plain()
	all[0] = api.Krb{}
	for _, kind := range []int{0, 8, 9, -1, -7, 255, 256, 257, 1 << 32, 1<<32 + 7, math.MaxInt, math.MinInt} {
		for like, m := range all {
			m.Kind = kind
			wrong(t, m)
			v := values(m)
			b := probe.Field(31, v[31])
			for _, tag := range has[like] {
				b += probe.Field(tag, v[tag])
			}
			refused(t, b)
		}
	}
}

// TestKindsOfOthers: P8.1 and P8.2, the fields of one kind aren't those of another, but where both have the same ones.
func TestKindsOfOthers(t *testing.T) {
	for kind, m := range plain() {
		for other := range has {
			x := m
			x.Kind = other
			b := probe.Field(31, probe.Num(uint64(other))) + want(m)[4:]
			if slices.Equal(has[kind], has[other]) {
				right(t, x)
			} else {
				refused(t, b)
			}
		}
	}
}

// parts gives the fields of a message, one by one.
func parts(m api.Krb) []string {
	v := values(m)
	all := []string{probe.Field(31, v[31])}
	for _, tag := range has[m.Kind] {
		all = append(all, probe.Field(tag, v[tag]))
	}
	return all
}

// TestReadFields: P8.2, fields that are left out, doubled, out of order, or of another tag.
func TestReadFields(t *testing.T) {
	for _, m := range plain() {
		fields := parts(m)
		all := strings.Join(fields, "")
		for i := range fields {
			refused(t, strings.Join(slices.Delete(slices.Clone(fields), i, i+1), ""))
			refused(t, strings.Join(slices.Insert(slices.Clone(fields), i, fields[i]), ""))
			for tag := range 256 {
				empty := probe.Field(byte(tag), "")
				refused(t, strings.Join(slices.Insert(slices.Clone(fields), i, empty), ""))
				other := slices.Clone(fields)
				other[i] = string([]byte{byte(tag)}) + fields[i][1:]
				if other[i] != fields[i] {
					refused(t, strings.Join(other, ""))
				}
			}
			for n := range i {
				turned := slices.Clone(fields)
				turned[n], turned[i] = turned[i], turned[n]
				refused(t, strings.Join(turned, ""))
			}
		}
		for tag := range 256 {
			refused(t, all+probe.Field(byte(tag), ""))
		}
		refused(t, all+all)
	}
}

// TestReadNumbers: P8.2, numbers with noughts ahead, or too great, also such as go round to a right one in fewer bits.
func TestReadNumbers(t *testing.T) {
	long := []string{"\x00", "\x00\x01", "\x00\x00\x00\x00\x00\x00\x00\x01", "\x01\x00\x00\x00\x00\x00\x00\x00\x01", "\xff\xff\xff\xff\xff\xff\xff\xff\xff"}
	great := append([]string{"\x01\x00\x00\x00\x00\x00\x00\x01", "\x80\x00\x00\x00\x00\x00\x00\x01", "\xff\xff\xff\xff\xff\xff\xff\xff", "\x80\x00\x00\x00\x00\x00\x00\x00"}, long...)
	small := append([]string{"\x01\x00\x00\x00\x01", "\x01\x00\x00\x00\x02", "\x01\x00\x00\x00\x03", "\x01\x00\x00\x00\x07", "\x01\x00\x01", "\x01\x00\x07"}, great...)
	bad := map[byte][]string{
		31: small, 34: long, 35: append([]string{"\x01\x00\x00\x00\x00\x01"}, great...),
		36: small, 39: append([]string{"", "\x00\x42", "\x03\xe8", "\x01\x00\x42", "\x01\x00\x00\x00\x42"}, great...),
	}
	for _, m := range plain() {
		for i, f := range parts(m) {
			for _, v := range bad[f[0]] {
				other := parts(m)
				other[i] = probe.Field(f[0], v)
				refused(t, strings.Join(other, ""))
			}
		}
	}
}

// TestReadBytes: P8.2, bytes that are nearly right: cut off, with a byte more, less or changed.
func TestReadBytes(t *testing.T) {
	check := func(b string) {
		t.Helper()
		m, e := krb.Read([]byte(b))
		if e != api.OK {
			if e != api.ErrForm || !reflect.DeepEqual(m, api.Krb{}) {
				t.Errorf("%q: %+v, %v", b, m, e)
			}
			return
		}
		if back, e := krb.Write(m); e != api.OK || string(back) != b || krb.Check(m) != api.OK {
			t.Errorf("%q: %+v, which is written as %q, %v", b, m, back, e)
		}
	}
	for _, m := range plain() {
		b := want(m)
		for n := range len(b) {
			refused(t, b[:n])
			refused(t, b[n+1:])
			check(b[:n] + b[n+1:])
			for c := range 256 {
				check(b[:n] + string([]byte{byte(c)}) + b[n+1:])
				check(b[:n] + string([]byte{byte(c)}) + b[n:])
			}
		}
		for c := range 256 {
			refused(t, b+string([]byte{byte(c)}))
		}
	}
	refused(t, "")
	refused(t, strings.Repeat("\x1f\x00\x01\x07", 100000))
	if m, e := krb.Read(nil); e != api.ErrForm || !reflect.DeepEqual(m, api.Krb{}) {
		t.Errorf("nil: %+v, %v", m, e)
	}
}

// TestArgumentsStay: P8.3, nothing that is handed in is changed.
func TestArgumentsStay(t *testing.T) {
	for _, m := range plain() {
		data, all := probe.Roomy(want(m))
		krb.Read(data)
		krb.Read(data[:len(data)-1])
		if string(all) != want(m)+probe.Spare {
			t.Errorf("%q", all)
		}
		x := m
		var ticketAll, sealedAll []byte
		x.Ticket, ticketAll = probe.Roomy(string(m.Ticket))
		x.Sealed, sealedAll = probe.Roomy(string(m.Sealed))
		krb.Check(x)
		krb.Write(x)
		x.Code += 2000
		krb.Check(x)
		krb.Write(x)
		if string(ticketAll) != string(m.Ticket)+probe.Spare || string(sealedAll) != string(m.Sealed)+probe.Spare {
			t.Errorf("%q, %q", ticketAll, sealedAll)
		}
	}
}

// TestAnswersAreNew: P8.3, answers share nothing with what was handed in, nor with each other.
func TestAnswersAreNew(t *testing.T) {
	for _, m := range plain() {
		data, _ := probe.Roomy(want(m))
		one, _ := krb.Read(data)
		two, _ := krb.Read(data)
		probe.Spoil(data)
		if !probe.SameKrb(one, m) {
			t.Errorf("the bytes are kept: %+v", one)
		}
		probe.Spoil(one.Ticket)
		if !bytes.Equal(one.Sealed, m.Sealed) {
			t.Errorf("lists of one message share memory: %q", one.Sealed)
		}
		probe.Spoil(one.Sealed)
		if !probe.SameKrb(two, m) {
			t.Errorf("lists of two messages share memory: %+v", two)
		}
		x := m
		x.Ticket, _ = probe.Roomy(string(m.Ticket))
		x.Sealed, _ = probe.Roomy(string(m.Sealed))
		a, _ := krb.Write(x)
		b, _ := krb.Write(x)
		probe.Spoil(a)
		probe.Spoil(x.Ticket)
		probe.Spoil(x.Sealed)
		if string(b) != want(m) {
			t.Errorf("Write: %q", b)
		}
	}
}

// TestTextsAreNotKept: P8.3, a message's texts may be written over behind the call.
func TestTextsAreNotKept(t *testing.T) {
	buffer := []byte("ann@LANDhost/s1@LAND")
	text := unsafe.String(&buffer[0], len(buffer))
	b, _ := krb.Write(api.Krb{Kind: 1, Client: text[:8], Server: text[8:]})
	probe.Spoil(buffer)
	if string(b) != want(api.Krb{Kind: 1, Client: "ann@LAND", Server: "host/s1@LAND"}) {
		t.Errorf("%q", b)
	}
}

// answers gives all that the calls answer to some bytes, and to messages made of them.
func answers(s string) []any {
	data := []byte(s)
	n := binary.BigEndian.Uint64(append(make([]byte, 8), data...)[len(data):])
	var all []any
	for kind := -1; kind < 9; kind++ {
		m := api.Krb{Kind: kind, Client: s, Nonce: n, End: int64(n), Flags: len(data), Ticket: data, Sealed: data, Code: int(n)}
		b, e := krb.Write(m)
		all = append(all, krb.Check(m), b, e)
	}
	m, e := krb.Read(data)
	behind, e2 := krb.Read(append([]byte(probe.Field(31, "\x06")), data...))
	return append(all, m, e, behind, e2)
}

// TestAnyArguments: P1 and P2, each call ends, without a panic, and answers the same in a second run.
func TestAnyArguments(t *testing.T) {
	const alphabet, most = "\x00\x01\x1f\x22a@", 5
	if s, parts := probe.Parting(probe.Texts(alphabet, most), answers, reflect.DeepEqual); parts {
		t.Errorf("%q: two runs part", s)
	}
}

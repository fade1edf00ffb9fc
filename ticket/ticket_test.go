package ticket_test

import (
	"bytes"
	"encoding/binary"
	"fmt"
	"math"
	"reflect"
	"slices"
	"strings"
	"testing"
	"unsafe"

	"gangway/api"
	"gangway/probe"
	"gangway/seal"
	"gangway/ticket"
)

const last = 1 << 40 // the greatest time

// key gives a key that begins with a byte.
func key(first byte) api.Key { return api.Key{first, 2, 3, 15: 0x99} }

// wantTicket gives the bytes of a ticket.
func wantTicket(t api.Ticket) string {
	return probe.Field(1, t.Client) + probe.Field(2, t.Server) + probe.Field(3, string(t.Key[:])) + probe.Field(4, probe.Num(uint64(t.Start))) + probe.Field(5, probe.Num(uint64(t.End))) + probe.Field(6, probe.Num(uint64(t.Flags)))
}

// wantAuth gives the bytes of an authenticator.
func wantAuth(a api.Auth) string {
	return probe.Field(11, a.Client) + probe.Field(12, probe.Num(uint64(a.Time))) + probe.Field(13, probe.Num(a.Nonce)) + probe.Field(14, string(a.Subkey[:]))
}

// wantGrant gives the bytes of a grant.
func wantGrant(g api.Grant) string {
	return probe.Field(21, g.Server) + probe.Field(22, string(g.Key[:])) + probe.Field(23, probe.Num(g.Nonce)) + probe.Field(24, probe.Num(uint64(g.Start))) + probe.Field(25, probe.Num(uint64(g.End))) + probe.Field(26, probe.Num(uint64(g.Flags)))
}

// show tells of a thing, but not at length.
func show(x any) string {
	s := fmt.Sprintf("%+v", x)
	return s[:min(len(s), 300)]
}

// kind is one of the three things that are written, with what is right of it.
type kind[T any] struct {
	write func(T) ([]byte, api.Errno)
	read  func([]byte) (T, api.Errno)
	want  func(T) string
	right []T
	wrong []T
}

// spans are from when to when tickets may last, and wrongSpans from when to when they may not.
var (
	spans      = [][2]int64{{0, 0}, {0, 1}, {0, last}, {1, 1}, {100, 200}, {255, 256}, {last - 1, last}, {last, last}}
	wrongSpans = [][2]int64{
		{-1, 0}, {-1, -1}, {1, 0}, {200, 199}, {last, last - 1}, {0, last + 1}, {last + 1, last + 1}, {last + 1, last}, {0, -1}, {5, -5},
		{math.MinInt64, 0}, {0, math.MaxInt64}, {math.MinInt64, math.MaxInt64}, {0, math.MinInt64}, {math.MaxInt64, math.MinInt64},
	}
	wrongFlags = []int{-1, -2, -4, 4, 5, 7, 8, 256, math.MaxInt, math.MinInt}
	nonces     = []uint64{0, 1, 255, 256, 65536, 1 << 40, 1<<63 - 1, 1 << 63, math.MaxUint64}
)

// tickets gives what is right, and what isn't, of tickets.
func tickets() kind[api.Ticket] {
	k := kind[api.Ticket]{write: ticket.Write, read: ticket.Read, want: wantTicket}
	base := api.Ticket{Client: "ann@LAND", Server: "host/s1@LAND", Key: key(1), Start: 100, End: 200, Flags: 1}
	add := func(list *[]api.Ticket, change func(*api.Ticket)) {
		t := base
		change(&t)
		*list = append(*list, t)
	}
	for _, n := range probe.Names() {
		add(&k.right, func(t *api.Ticket) { t.Client = n })
		add(&k.right, func(t *api.Ticket) { t.Server = n })
	}
	for _, n := range probe.NotNames() {
		add(&k.wrong, func(t *api.Ticket) { t.Client = n })
		add(&k.wrong, func(t *api.Ticket) { t.Server = n })
	}
	for _, x := range spans {
		add(&k.right, func(t *api.Ticket) { t.Start, t.End = x[0], x[1] })
	}
	for _, x := range wrongSpans {
		add(&k.wrong, func(t *api.Ticket) { t.Start, t.End = x[0], x[1] })
	}
	for n := range 4 {
		add(&k.right, func(t *api.Ticket) { t.Flags = n })
	}
	for _, n := range wrongFlags {
		add(&k.wrong, func(t *api.Ticket) { t.Flags = n })
	}
	add(&k.right, func(t *api.Ticket) { t.Key = api.Key{} })
	add(&k.right, func(t *api.Ticket) { t.Key = api.Key(bytes.Repeat([]byte{255}, 16)) })
	k.wrong = append(k.wrong, api.Ticket{})
	return k
}

// auths gives what is right, and what isn't, of authenticators.
func auths() kind[api.Auth] {
	k := kind[api.Auth]{write: ticket.WriteAuth, read: ticket.ReadAuth, want: wantAuth}
	for _, n := range probe.Names() {
		k.right = append(k.right, api.Auth{Client: n, Time: 100, Nonce: 7, Subkey: key(4)})
	}
	for _, n := range probe.NotNames() {
		k.wrong = append(k.wrong, api.Auth{Client: n, Time: 100, Nonce: 7, Subkey: key(4)})
	}
	for _, time := range []int64{0, 1, 255, 256, last - 1, last} {
		k.right = append(k.right, api.Auth{Client: "ann@LAND", Time: time, Nonce: 7, Subkey: key(5)})
	}
	for _, time := range []int64{-1, -256, last + 1, 2 * last, math.MaxInt64, math.MinInt64} {
		k.wrong = append(k.wrong, api.Auth{Client: "ann@LAND", Time: time, Nonce: 7, Subkey: key(5)})
	}
	for _, n := range nonces {
		k.right = append(k.right, api.Auth{Client: "ann@LAND", Time: 100, Nonce: n})
	}
	k.wrong = append(k.wrong, api.Auth{})
	return k
}

// grants gives what is right, and what isn't, of grants.
func grants() kind[api.Grant] {
	k := kind[api.Grant]{write: ticket.WriteGrant, read: ticket.ReadGrant, want: wantGrant}
	for _, n := range probe.Names() {
		k.right = append(k.right, api.Grant{Server: n, Key: key(6), Nonce: 7, Start: 100, End: 200})
	}
	for _, n := range probe.NotNames() {
		k.wrong = append(k.wrong, api.Grant{Server: n, Key: key(6), Nonce: 7, Start: 100, End: 200})
	}
	for _, n := range nonces {
		k.right = append(k.right, api.Grant{Server: "host/s1@LAND", Nonce: n})
	}
	for _, x := range spans {
		k.right = append(k.right, api.Grant{Server: "host/s1@LAND", Key: key(7), Start: x[0], End: x[1], Flags: 2})
	}
	for _, x := range wrongSpans {
		k.wrong = append(k.wrong, api.Grant{Server: "host/s1@LAND", Key: key(7), Start: x[0], End: x[1], Flags: 2})
	}
	for n := range 4 {
		k.right = append(k.right, api.Grant{Server: "host/s1@LAND", Key: key(8), Nonce: 1, Start: 5, End: 6, Flags: n})
	}
	for _, n := range wrongFlags {
		k.wrong = append(k.wrong, api.Grant{Server: "host/s1@LAND", Key: key(8), Nonce: 1, Start: 5, End: 6, Flags: n})
	}
	k.wrong = append(k.wrong, api.Grant{})
	return k
}

// checkWritten looks whether what is right is written as it must be, and read back, and the rest refused.
func checkWritten[T comparable](t *testing.T, k kind[T]) {
	t.Helper()
	for _, x := range k.right {
		b, e := k.write(x)
		if e != api.OK || string(b) != k.want(x) {
			t.Errorf("%+v: %q, %v", x, b, e)
		}
		if got, e := k.read([]byte(k.want(x))); e != api.OK || got != x {
			t.Errorf("%+v: read as %+v, %v", x, got, e)
		}
	}
	var none T
	for _, x := range k.wrong {
		if b, e := k.write(x); e != api.ErrArg || len(b) != 0 {
			t.Errorf("%s: %q, %v", show(x), b, e)
		}
		b := k.want(x) // as it would be written
		if got, e := k.read([]byte(b)); e != api.ErrForm || got != none {
			t.Errorf("%.200q: %+v, %v", b, got, e)
		}
	}
}

// TestWritten: P7.1 and P7.2, what is right, and what isn't.
func TestWritten(t *testing.T) {
	checkWritten(t, tickets())
	checkWritten(t, auths())
	checkWritten(t, grants())
}

// TestKnown: P7.1 and P7.2, bytes that are written out here.
func TestKnown(t *testing.T) {
	k := api.Key{0, 1, 2, 3, 4, 5, 6, 7, 8, 9, 10, 11, 12, 13, 14, 15}
	const plain = "\x00\x01\x02\x03\x04\x05\x06\x07\x08\x09\x0a\x0b\x0c\x0d\x0e\x0f"
	one := api.Ticket{Client: "ann@LAND", Server: "host/s1@LAND", Key: k, Start: 0, End: 258, Flags: 3}
	if b, e := ticket.Write(one); e != api.OK || string(b) != "\x01\x00\x08ann@LAND\x02\x00\x0chost/s1@LAND\x03\x00\x10"+plain+"\x04\x00\x00\x05\x00\x02\x01\x02\x06\x00\x01\x03" {
		t.Errorf("%q, %v", b, e)
	}
	two := api.Auth{Client: "ann@LAND", Time: last, Nonce: 5, Subkey: k}
	if b, e := ticket.WriteAuth(two); e != api.OK || string(b) != "\x0b\x00\x08ann@LAND\x0c\x00\x06\x01\x00\x00\x00\x00\x00\x0d\x00\x01\x05\x0e\x00\x10"+plain {
		t.Errorf("%q, %v", b, e)
	}
	three := api.Grant{Server: "host/s1@LAND", Key: k, Nonce: 0, Start: 1, End: 256, Flags: 0}
	if b, e := ticket.WriteGrant(three); e != api.OK || string(b) != "\x15\x00\x0chost/s1@LAND\x16\x00\x10"+plain+"\x17\x00\x00\x18\x00\x01\x01\x19\x00\x02\x01\x00\x1a\x00\x00" {
		t.Errorf("%q, %v", b, e)
	}
}

// checkRead looks whether bytes are read just if they are what is written of what is read.
func checkRead[T comparable](t *testing.T, k kind[T], b string) {
	t.Helper()
	var none T
	got, e := k.read([]byte(b))
	if e == api.OK {
		if back, e := k.write(got); e != api.OK || string(back) != b {
			t.Errorf("%q: read as %+v, which is written as %q, %v", b, got, back, e)
		}
	} else if e != api.ErrForm || got != none {
		t.Errorf("%q: %+v, %v", b, got, e)
	}
}

// refused looks whether bytes are not read.
func refused[T comparable](t *testing.T, k kind[T], b string) {
	t.Helper()
	var none T
	if got, e := k.read([]byte(b)); e != api.ErrForm || got != none {
		t.Errorf("%.200q: %+v, %v", b, got, e)
	}
}

// checkBytes looks at bytes that aren't quite those of something right: cut off, with a byte more, less or changed.
func checkBytes[T comparable](t *testing.T, k kind[T]) {
	t.Helper()
	b := k.want(k.right[0])
	for n := range len(b) {
		refused(t, k, b[:n])
		refused(t, k, b[n+1:])
		for c := range 256 {
			checkRead(t, k, b[:n]+string([]byte{byte(c)})+b[n+1:])
			checkRead(t, k, b[:n]+string([]byte{byte(c)})+b[n:])
		}
		checkRead(t, k, b[:n]+b[n+1:])
	}
	for c := range 256 {
		refused(t, k, b+string([]byte{byte(c)}))
	}
	refused(t, k, "")
	refused(t, k, b+b)
	refused(t, k, strings.Repeat("\x01\x00\x00", 100000))
	if got, e := k.read(nil); e != api.ErrForm {
		t.Errorf("nil: %v, %v", got, e)
	}
}

// TestReadBytes: P7.2, bytes that are nearly right.
func TestReadBytes(t *testing.T) {
	checkBytes(t, tickets())
	checkBytes(t, auths())
	checkBytes(t, grants())
}

// checkFields looks at fields that are out of order, left out, doubled, or have other tags or values.
func checkFields[T comparable](t *testing.T, k kind[T], first byte, values []string, wrong map[int][]string) {
	t.Helper()
	put := func(values []string) string {
		all := ""
		for i, v := range values {
			all += probe.Field(first+byte(i), v)
		}
		return all
	}
	var fields []string
	for i, v := range values {
		fields = append(fields, probe.Field(first+byte(i), v))
	}
	if _, e := k.read([]byte(put(values))); e != api.OK {
		t.Fatalf("%q: %v", values, e)
	}
	for i := range fields {
		refused(t, k, strings.Join(slices.Delete(slices.Clone(fields), i, i+1), ""))
		refused(t, k, strings.Join(slices.Insert(slices.Clone(fields), i, fields[i]), ""))
		refused(t, k, strings.Join(slices.Insert(slices.Clone(fields), i, probe.Field(99, "")), ""))
		for n := range i {
			turned := slices.Clone(fields)
			turned[n], turned[i] = turned[i], turned[n]
			refused(t, k, strings.Join(turned, ""))
		}
		for _, tag := range []byte{first - 1, first + byte(i) + 1, first + byte(len(fields)), 31, 255} {
			other := slices.Clone(fields)
			other[i] = probe.Field(tag, values[i])
			refused(t, k, strings.Join(other, ""))
		}
		for _, v := range wrong[i] {
			other := slices.Clone(values)
			other[i] = v
			refused(t, k, put(other))
		}
	}
	refused(t, k, strings.Join(fields, "")+probe.Field(99, ""))
	refused(t, k, strings.Join(fields, "")+"\x00")
}

// The values of fields that aren't right: numbers with noughts ahead, or too great, also such as go round to a right one in fewer bits; keys of other lengths.
var (
	wrongNums = []string{"\x00", "\x00\x64", "\x00\x00", "\x00\x00\x00\x00\x00\x00\x00\x64", "\x01\x00\x00\x00\x00\x00\x00\x00\x64", "\xff\xff\xff\xff\xff\xff\xff\xff\xff"}
	wrongBig  = append([]string{"\x01\x00\x00\x00\x00\x01", "\x80\x00\x00\x00\x00\x00\x00\x64", "\xff\xff\xff\xff\xff\xff\xff\xff", "\x01\x00\x00\x00\x00\x00\x00\x64", "\x80\x00\x00\x00\x00\x00\x00\x00"}, wrongNums...)
	wrongFlag = append([]string{"\x04", "\x05", "\xff", "\x01\x00", "\x01\x01", "\x01\x00\x00\x00\x01", "\x01\x00\x00\x00\x00"}, wrongBig...)
	wrongKeys = []string{"", "k", strings.Repeat("k", 15), strings.Repeat("k", 17), strings.Repeat("k", 32), strings.Repeat("\x00", 15), strings.Repeat("k", 16) + "\x00", strings.Repeat("k", 65535)}
)

// TestReadFields: P7.2, fields that aren't the right ones.
func TestReadFields(t *testing.T) {
	k := strings.Repeat("k", 16)
	notNames := probe.NotNames()[:13]
	checkFields(t, tickets(), 1, []string{"ann@LAND", "host/s1@LAND", k, "\x64", "\xc8", "\x01"},
		map[int][]string{0: notNames, 1: notNames, 2: wrongKeys, 3: append([]string{"\xc9"}, wrongBig...), 4: append([]string{"", "\x63"}, wrongBig...), 5: wrongFlag})
	checkFields(t, auths(), 11, []string{"ann@LAND", "\x64", "\x05", k},
		map[int][]string{0: notNames, 1: wrongBig, 2: wrongNums, 3: wrongKeys})
	checkFields(t, grants(), 21, []string{"host/s1@LAND", k, "\x05", "\x64", "\xc8", "\x01"},
		map[int][]string{0: notNames, 1: wrongKeys, 2: wrongNums, 3: append([]string{"\xc9"}, wrongBig...), 4: append([]string{"", "\x63"}, wrongBig...), 5: wrongFlag})
}

// TestReadOthers: P7.2, none is read as one of the other two.
func TestReadOthers(t *testing.T) {
	a, b, c := tickets(), auths(), grants()
	x, y, z := wantTicket(a.right[0]), wantAuth(b.right[0]), wantGrant(c.right[0])
	refused(t, a, y)
	refused(t, a, z)
	refused(t, b, x)
	refused(t, b, z)
	refused(t, c, x)
	refused(t, c, y)
}

// TestSeal: P7.3, by both kinds of sealers.
func TestSeal(t *testing.T) {
	for _, symbols := range []bool{true, false} {
		s, same := seal.New(symbols, key(9)), seal.New(symbols, key(9))
		for _, x := range tickets().right {
			box, e := ticket.Seal(s, key(3), x)
			want, _ := same.Seal(key(3), 2, []byte(wantTicket(x)))
			if e != api.OK || !bytes.Equal(box, want) {
				t.Errorf("%+v: %x, %v", x, box, e)
			}
			if got, e := ticket.Open(s, key(3), box); e != api.OK || got != x {
				t.Errorf("%+v: opened as %+v, %v", x, got, e)
			}
			if plain, e := s.Open(key(3), 2, box); e != api.OK || string(plain) != wantTicket(x) {
				t.Errorf("%+v: %q, %v", x, plain, e)
			}
		}
		if s.Drawn() != 0 {
			t.Errorf("%d drawn", s.Drawn())
		}
	}
}

// TestSealWrong: P7.3, what isn't right is not sealed, nor counted.
func TestSealWrong(t *testing.T) {
	good := tickets().right[0]
	for _, symbols := range []bool{true, false} {
		s, same := seal.New(symbols, key(9)), seal.New(symbols, key(9))
		for _, x := range tickets().wrong {
			if box, e := ticket.Seal(s, key(3), x); e != api.ErrArg || len(box) != 0 {
				t.Errorf("%s: %x, %v", show(x), box, e)
			}
		}
		if n := len(s.Terms()); n != 0 {
			t.Errorf("%d were sealed", n)
		}
		box, _ := ticket.Seal(s, key(3), good)
		if want, _ := same.Seal(key(3), 2, []byte(wantTicket(good))); !bytes.Equal(box, want) {
			t.Errorf("%x, not %x", box, want)
		}
	}
}

// TestOpenWrong: P7.3, boxes that aren't a ticket's.
func TestOpenWrong(t *testing.T) {
	x := tickets().right[0]
	for _, symbols := range []bool{true, false} {
		s := seal.New(symbols, key(9))
		box, _ := ticket.Seal(s, key(3), x)
		check := func(k api.Key, box []byte, want api.Errno) {
			t.Helper()
			if got, e := ticket.Open(s, k, box); e != want || got != (api.Ticket{}) {
				t.Errorf("%v: %.40x: %+v, %v", symbols, box, got, e)
			}
		}
		check(key(4), box, api.ErrSeal)
		check(api.Key{}, box, api.ErrSeal)
		check(key(3), box[1:], api.ErrSeal)
		check(key(3), box[:len(box)-1], api.ErrSeal)
		check(key(3), append(slices.Clone(box), 0), api.ErrSeal)
		check(key(3), nil, api.ErrSeal)
		check(key(3), []byte(wantTicket(x)), api.ErrSeal)
		for use := range 10 {
			other, _ := s.Seal(key(3), use, []byte(wantTicket(x)))
			if use != 2 {
				check(key(3), other, api.ErrSeal)
			}
		}
		for _, plain := range []string{"", "x", wantAuth(auths().right[0]), wantGrant(grants().right[0]), wantTicket(tickets().wrong[0]), wantTicket(x) + "\x00", strings.Repeat("x", 2000)} {
			other, _ := s.Seal(key(3), 2, []byte(plain))
			check(key(3), other, api.ErrForm)
			check(key(4), other, api.ErrSeal)
		}
	}
}

// TestValid: P7.4.
func TestValid(t *testing.T) {
	const least, most = math.MinInt64, math.MaxInt64
	for _, x := range []struct {
		start, end, now int64
		want            api.Errno
	}{
		{100, 200, 89, api.ErrEarly}, {100, 200, 90, api.OK}, {100, 200, 150, api.OK}, {100, 200, 210, api.OK}, {100, 200, 211, api.ErrExpired},
		{100, 200, 100, api.OK}, {100, 200, 99, api.OK}, {100, 200, 200, api.OK}, {100, 200, 201, api.OK}, {100, 200, 0, api.ErrEarly}, {100, 200, 5000, api.ErrExpired},
		{0, 0, 0, api.OK}, {0, 0, -10, api.OK}, {0, 0, -11, api.ErrEarly}, {0, 0, 10, api.OK}, {0, 0, 11, api.ErrExpired},
		{200, 100, 150, api.ErrEarly}, {200, 100, 189, api.ErrEarly}, {200, 100, 190, api.ErrExpired}, {121, 100, 111, api.ErrExpired}, {121, 100, 110, api.ErrEarly},
		{100, 200, least, api.ErrEarly}, {100, 200, most, api.ErrExpired}, {least, most, 0, api.OK}, {most, least, 0, api.ErrEarly}, {most, least, most, api.ErrExpired},
		{least, most, least, api.OK}, {least, most, most, api.OK}, {most, most, least, api.ErrEarly}, {least, least, most, api.ErrExpired},
		{least, least, least, api.OK}, {most, most, most, api.OK}, {least, least, least + 10, api.OK}, {least, least, least + 11, api.ErrExpired},
		{most, most, most - 10, api.OK}, {most, most, most - 11, api.ErrEarly}, {least + 10, 0, least, api.OK}, {least + 11, 0, least, api.ErrEarly},
		{0, most - 10, most, api.OK}, {0, most - 11, most, api.ErrExpired}, {0, most - 5, most - 3, api.OK}, {least + 3, 0, least + 5, api.OK},
		{1, most, least, api.ErrEarly}, {-1, most, least, api.ErrEarly}, {0, most, least, api.ErrEarly}, {least, -1, most, api.ErrExpired}, {least, 0, most, api.ErrExpired},
	} {
		if e := ticket.Valid(api.Ticket{Start: x.start, End: x.end}, x.now); e != x.want {
			t.Errorf("%d to %d, at %d: %v", x.start, x.end, x.now, e)
		}
		full := api.Ticket{Client: "x", Server: "y", Key: key(1), Start: x.start, End: x.end, Flags: -9}
		if e := ticket.Valid(full, x.now); e != x.want {
			t.Errorf("%+v at %d: %v", full, x.now, e)
		}
	}
}

// TestArgumentsStay: P7.5, nothing that is handed in is changed.
func TestArgumentsStay(t *testing.T) {
	a, b, c := tickets().right[0], auths().right[0], grants().right[0]
	for _, text := range []string{wantTicket(a), wantAuth(b), wantGrant(c), "", "x"} {
		data, all := probe.Roomy(text)
		ticket.Read(data)
		ticket.ReadAuth(data)
		ticket.ReadGrant(data)
		if string(all) != text+probe.Spare {
			t.Errorf("%q: %q", text, all)
		}
	}
	for _, symbols := range []bool{true, false} {
		s := seal.New(symbols, key(9))
		sealed, _ := ticket.Seal(s, key(3), a)
		box, all := probe.Roomy(string(sealed))
		ticket.Open(s, key(3), box)
		ticket.Open(s, key(4), box)
		if string(all) != string(sealed)+probe.Spare {
			t.Errorf("%x", all)
		}
	}
}

// checkKept looks whether what is read keeps nothing of the bytes, and what is written nothing of the thing, nor of what was written ahead.
func checkKept[T comparable](t *testing.T, k kind[T]) {
	t.Helper()
	x := k.right[0]
	data, _ := probe.Roomy(k.want(x))
	got, _ := k.read(data)
	probe.Spoil(data)
	if got != x {
		t.Errorf("the bytes are kept: %+v", got)
	}
	one, _ := k.write(x)
	two, _ := k.write(x)
	probe.Spoil(one)
	if string(two) != k.want(x) {
		t.Errorf("answers share memory: %q", two)
	}
}

// TestAnswersAreNew: P7.5, answers share nothing with what was handed in, nor with each other.
func TestAnswersAreNew(t *testing.T) {
	checkKept(t, tickets())
	checkKept(t, auths())
	checkKept(t, grants())
	x := tickets().right[0]
	for _, symbols := range []bool{true, false} {
		s := seal.New(symbols, key(9))
		one, _ := ticket.Seal(s, key(3), x)
		box, _ := probe.Roomy(string(one))
		probe.Spoil(one)
		again := bytes.Clone(box)
		got, e := ticket.Open(s, key(3), box)
		probe.Spoil(box)
		if e != api.OK || got != x {
			t.Errorf("%+v, %v", got, e)
		}
		if got, e := ticket.Open(s, key(3), again); e != api.OK || got != x {
			t.Errorf("the box is kept: %+v, %v", got, e)
		}
	}
}

// TestTextsAreNotKept: P7.5, a ticket's texts may be written over behind the call.
func TestTextsAreNotKept(t *testing.T) {
	buffer := []byte("ann@LANDhost/s1@LAND")
	text := unsafe.String(&buffer[0], len(buffer))
	x := api.Ticket{Client: text[:8], Server: text[8:], Start: 1, End: 2}
	want := api.Ticket{Client: "ann@LAND", Server: "host/s1@LAND", Start: 1, End: 2}
	s := seal.New(true, api.Key{})
	b, _ := ticket.Write(x)
	box, _ := ticket.Seal(s, key(3), x)
	probe.Spoil(buffer)
	if string(b) != wantTicket(want) {
		t.Errorf("%q", b)
	}
	if got, e := ticket.Open(s, key(3), box); e != api.OK || got != want {
		t.Errorf("%+v, %v", got, e)
	}
}

// answers gives all that the calls answer to some bytes, and to things made of them.
func answers(text string) []any {
	data := []byte(text)
	n := int64(binary.BigEndian.Uint64(append(make([]byte, 8), data...)[len(data):]))
	s := seal.New(len(data)%2 == 0, key(1))
	one := api.Ticket{Client: text, Server: "s@" + text, Start: -n, End: n, Flags: int(n)}
	a, e1 := ticket.Write(one)
	b, e2 := ticket.Read(data)
	c, e3 := ticket.WriteAuth(api.Auth{Client: text, Time: n, Nonce: uint64(n)})
	d, e4 := ticket.ReadAuth(data)
	e, e5 := ticket.WriteGrant(api.Grant{Server: text, Start: n, End: n, Flags: len(data)})
	f, e6 := ticket.ReadGrant(data)
	g, e7 := ticket.Seal(s, key(2), one)
	h, e8 := ticket.Open(s, key(2), data)
	return []any{a, e1, b, e2, c, e3, d, e4, e, e5, f, e6, g, e7, h, e8, ticket.Valid(one, -n), ticket.Valid(one, n)}
}

// TestAnyArguments: P1 and P2, each call ends, without a panic, and answers the same in a second run.
func TestAnyArguments(t *testing.T) {
	const alphabet, most = "\x01\x00\x0b\x15a@\xff", 5
	if s, parts := probe.Parting(probe.Texts(alphabet, most), answers, reflect.DeepEqual); parts {
		t.Errorf("%q: two runs part", s)
	}
}

package tlv_test

import (
	"bytes"
	"math"
	"reflect"
	"strings"
	"testing"

	"gangway/api"
	"gangway/probe"
	"gangway/tlv"
)

// field gives a field of a text.
func field(tag int, value string) api.Field {
	return api.Field{Tag: tag, Value: []byte(value)}
}

// sameFields tells whether two lists have the same fields; nil and empty values are one.
func sameFields(a, b []api.Field) bool {
	if len(a) != len(b) {
		return false
	}
	for i := range a {
		if a[i].Tag != b[i].Tag || !bytes.Equal(a[i].Value, b[i].Value) {
			return false
		}
	}
	return true
}

// TestJoin: P1.1.
func TestJoin(t *testing.T) {
	long := strings.Repeat("x", 65535)
	tests := []struct {
		fields []api.Field
		want   string
		err    api.Errno
	}{
		{nil, "", api.OK},
		{[]api.Field{}, "", api.OK},
		{[]api.Field{field(5, "hi")}, "\x05\x00\x02hi", api.OK},
		{[]api.Field{{Tag: 1}}, "\x01\x00\x00", api.OK},
		{[]api.Field{field(255, "")}, "\xff\x00\x00", api.OK},
		{[]api.Field{field(7, "a"), field(7, "bc"), field(3, "")}, "\x07\x00\x01a\x07\x00\x02bc\x03\x00\x00", api.OK},
		{[]api.Field{field(9, long[:255])}, "\x09\x00\xff" + long[:255], api.OK},
		{[]api.Field{field(9, long[:258]), field(1, "\x00")}, "\x09\x01\x02" + long[:258] + "\x01\x00\x01\x00", api.OK},
		{[]api.Field{field(9, long)}, "\x09\xff\xff" + long, api.OK},
		{[]api.Field{field(0, "hi")}, "", api.ErrArg},
		{[]api.Field{field(256, "")}, "", api.ErrArg},
		{[]api.Field{field(257, "")}, "", api.ErrArg},
		{[]api.Field{field(-1, "")}, "", api.ErrArg},
		{[]api.Field{field(-255, "")}, "", api.ErrArg},
		{[]api.Field{field(math.MaxInt, "")}, "", api.ErrArg},
		{[]api.Field{field(math.MinInt, "")}, "", api.ErrArg},
		{[]api.Field{field(1, long+"x")}, "", api.ErrLong},
		{[]api.Field{field(1, long+long)}, "", api.ErrLong},
		{[]api.Field{field(0, long+"x")}, "", api.ErrArg},
		{[]api.Field{field(1, "a"), field(0, "")}, "", api.ErrArg},
		{[]api.Field{field(1, long+"x"), field(0, "")}, "", api.ErrLong},
		{[]api.Field{field(256, ""), field(1, long+"x")}, "", api.ErrArg},
	}
	for i, x := range tests {
		if b, e := tlv.Join(x.fields); e != x.err || string(b) != x.want {
			t.Errorf("%d: %.40q, %v", i, b, e)
		}
	}
}

// TestSplit: P1.2.
func TestSplit(t *testing.T) {
	tests := []struct {
		data string
		want []api.Field
		err  api.Errno
	}{
		{"", nil, api.OK},
		{"\x05\x00\x02hi", []api.Field{field(5, "hi")}, api.OK},
		{"\x01\x00\x00", []api.Field{field(1, "")}, api.OK},
		{"\xff\x00\x00\xff\x00\x01\x00", []api.Field{field(255, ""), field(255, "\x00")}, api.OK},
		{"\x03\x01\x02" + strings.Repeat("y", 258), []api.Field{field(3, strings.Repeat("y", 258))}, api.OK},
		{"\x03\xff\xff" + strings.Repeat("z", 65535), []api.Field{field(3, strings.Repeat("z", 65535))}, api.OK},
		{"\x00", nil, api.ErrForm},
		{"\x00\x00\x00", nil, api.ErrForm},
		{"\x00\x00\x05x", nil, api.ErrForm},
		{"\x01", nil, api.ErrShort},
		{"\x01\x00", nil, api.ErrShort},
		{"\x01\x00\x01", nil, api.ErrShort},
		{"\x01\x00\x03ab", nil, api.ErrShort},
		{"\x01\x01\x00ab", nil, api.ErrShort},
		{"\x01\xff\xff" + strings.Repeat("z", 65534), nil, api.ErrShort},
		{"\x01\x00\x01a\x00", nil, api.ErrForm},
		{"\x01\x00\x01a\x02", nil, api.ErrShort},
		{"\x01\x00\x00\x00\x00", nil, api.ErrForm},
		{"\x01\x00\x02\x00", nil, api.ErrShort},
	}
	for i, x := range tests {
		if f, e := tlv.Split([]byte(x.data)); e != x.err || !sameFields(f, x.want) {
			t.Errorf("%d: %v, %v", i, f, e)
		}
	}
	if f, e := tlv.Split(nil); e != api.OK || len(f) != 0 {
		t.Errorf("nil: %v, %v", f, e)
	}
}

// TestSplitCut: P1.2, a text of fields that ends too soon, at each place.
func TestSplitCut(t *testing.T) {
	whole := []byte("\x05\x00\x02hi\x06\x00\x00\x07\x00\x01!")
	ends := map[int]int{0: 0, 5: 1, 8: 2, 12: 3}
	for n := range len(whole) + 1 {
		fields, at := ends[n]
		want := api.ErrShort
		if at {
			want = api.OK
		}
		if f, e := tlv.Split(whole[:n]); e != want || len(f) != fields {
			t.Errorf("%d: %v, %v", n, f, e)
		}
	}
}

// TestSplitJoin: P1.1 and P1.2, each is the other one's way back.
func TestSplitJoin(t *testing.T) {
	good := 0
	for s := range probe.Texts("\x00\x01\x02\xff", 7) {
		f, e := tlv.Split([]byte(s))
		if e != api.OK {
			if len(f) != 0 || e != api.ErrForm && e != api.ErrShort {
				t.Fatalf("%q: %v, %v", s, f, e)
			}
			continue
		}
		good++
		if back, e := tlv.Join(f); e != api.OK || string(back) != s {
			t.Fatalf("%q: %q, %v", s, back, e)
		}
	}
	if good < 100 {
		t.Errorf("%d texts were fields", good)
	}
	all := []api.Field{}
	for tag := 1; tag <= 255; tag++ {
		all = append(all, field(tag, strings.Repeat("v", tag*3)))
	}
	b, e := tlv.Join(all)
	if e != api.OK {
		t.Fatal(e)
	}
	if f, e := tlv.Split(b); e != api.OK || !sameFields(f, all) {
		t.Errorf("%v", e)
	}
}

// TestValues: P1.3.
func TestValues(t *testing.T) {
	two := "\x01\x00\x01a\xff\x00\x02bc"
	tests := []struct {
		data string
		tags []int
		want []string
		err  api.Errno
	}{
		{"", nil, nil, api.OK},
		{"", []int{}, nil, api.OK},
		{two, []int{1, 255}, []string{"a", "bc"}, api.OK},
		{"\x04\x00\x00\x04\x00\x01x", []int{4, 4}, []string{"", "x"}, api.OK},
		{two, nil, nil, api.ErrForm},
		{two, []int{1}, nil, api.ErrForm},
		{two, []int{255}, nil, api.ErrForm},
		{two, []int{255, 1}, nil, api.ErrForm},
		{two, []int{1, 255, 1}, nil, api.ErrForm},
		{two, []int{1, 255, 0}, nil, api.ErrForm},
		{two, []int{1, 1}, nil, api.ErrForm},
		{two, []int{1, -1}, nil, api.ErrForm},
		{two, []int{257, 255}, nil, api.ErrForm},
		{two, []int{1, math.MaxInt}, nil, api.ErrForm},
		{"", []int{1}, nil, api.ErrForm},
		{"", []int{0}, nil, api.ErrForm},
		{"\x01\x00", []int{2}, nil, api.ErrShort},
		{"\x01\x00\x00\x02", []int{1}, nil, api.ErrShort},
		{"\x01\x00\x00\x02", []int{2, 2}, nil, api.ErrShort},
		{"\x01\x00\x00\x00", []int{1}, nil, api.ErrForm},
	}
	for i, x := range tests {
		v, e := tlv.Values([]byte(x.data), x.tags)
		same := e == x.err && len(v) == len(x.want)
		for k := 0; same && k < len(v); k++ {
			same = string(v[k]) == x.want[k]
		}
		if !same {
			t.Errorf("%d: %q, %v", i, v, e)
		}
	}
}

// TestNum: P1.4, numbers as bytes.
func TestNum(t *testing.T) {
	for n, want := range map[uint64]string{
		0: "", 1: "\x01", 5: "\x05", 255: "\xff", 256: "\x01\x00", 258: "\x01\x02", 65535: "\xff\xff", 65536: "\x01\x00\x00",
		0x010203: "\x01\x02\x03", 0x01020304: "\x01\x02\x03\x04", 1 << 40: "\x01\x00\x00\x00\x00\x00",
		0x0102030405060708: "\x01\x02\x03\x04\x05\x06\x07\x08", 1 << 63: "\x80\x00\x00\x00\x00\x00\x00\x00", math.MaxUint64: "\xff\xff\xff\xff\xff\xff\xff\xff",
	} {
		if b := tlv.Num(n); string(b) != want {
			t.Errorf("%d: %q", n, b)
		}
		if m, ok := tlv.Read([]byte(want)); !ok || m != n {
			t.Errorf("%q: %d, %v", want, m, ok)
		}
	}
	for bit := range 64 {
		for _, n := range []uint64{1<<bit - 1, 1 << bit, 1<<bit + 1} {
			b := tlv.Num(n)
			if m, ok := tlv.Read(b); !ok || m != n || len(b) > 8 || len(b) > 0 && b[0] == 0 {
				t.Errorf("%d: %q, %d, %v", n, b, m, ok)
			}
		}
	}
}

// TestReadWrong: P1.4, bytes that are no number.
func TestReadWrong(t *testing.T) {
	for _, s := range []string{
		"\x00", "\x00\x01", "\x00\x00", "\x00\xff\xff\xff\xff\xff\xff\xff", "\x00\x01\x02\x03\x04\x05\x06\x07\x08",
		"\x01\x00\x00\x00\x00\x00\x00\x00\x00", "\xff\xff\xff\xff\xff\xff\xff\xff\xff", strings.Repeat("\x01", 300),
	} {
		if n, ok := tlv.Read([]byte(s)); ok || n != 0 {
			t.Errorf("%q: %d, %v", s, n, ok)
		}
	}
	for _, b := range [][]byte{nil, {}} {
		if n, ok := tlv.Read(b); !ok || n != 0 {
			t.Errorf("%v: %d, %v", b, n, ok)
		}
	}
}

// TestArgumentsStay: P1.5, nothing that is handed in is changed.
func TestArgumentsStay(t *testing.T) {
	text := "\x05\x00\x02hi\x06\x00\x01!"
	data, all := probe.Roomy(text)
	tags := []int{5, 6, 99}
	value, valueAll := probe.Roomy("hi")
	fields := []api.Field{{Tag: 5, Value: value}, {Tag: 0}, {Tag: 77}}
	tlv.Split(data)
	tlv.Read(data)
	tlv.Values(data, tags[:2])
	tlv.Values(data, tags[:1])
	tlv.Join(fields[:1])
	tlv.Join(fields[:2])
	if string(all) != text+probe.Spare || string(valueAll) != "hi"+probe.Spare {
		t.Errorf("bytes: %q, %q", all, valueAll)
	}
	if !reflect.DeepEqual(tags, []int{5, 6, 99}) {
		t.Errorf("tags: %v", tags)
	}
	if !reflect.DeepEqual(fields, []api.Field{{Tag: 5, Value: []byte("hi")}, {Tag: 0}, {Tag: 77}}) {
		t.Errorf("fields: %v", fields)
	}
}

// TestAnswersAreNew: P1.5, answers share nothing with what was handed in, nor with each other.
func TestAnswersAreNew(t *testing.T) {
	text := "\x05\x00\x02hi\x06\x00\x00\x07\x00\x03abc"
	want := []api.Field{field(5, "hi"), field(6, ""), field(7, "abc")}
	data, _ := probe.Roomy(text)
	f, _ := tlv.Split(data)
	g, _ := tlv.Split(data)
	v, _ := tlv.Values(data, []int{5, 6, 7})
	probe.Spoil(data)
	if !sameFields(f, want) || len(v) != 3 || string(v[0]) != "hi" || string(v[2]) != "abc" {
		t.Fatalf("the data are kept: %v, %q", f, v)
	}
	probe.Spoil(f[0].Value)
	probe.Spoil(f[1].Value)
	probe.Spoil(v[0])
	probe.Spoil(v[1])
	if !sameFields(f[1:], want[1:]) || !sameFields(g, want) || string(v[2]) != "abc" {
		t.Errorf("values share memory: %v, %v, %q", f, g, v)
	}
	clear(f[:cap(f)])
	clear(v[:cap(v)])
	if !sameFields(g, want) {
		t.Errorf("lists share memory: %v", g)
	}
}

// TestJoinIsNew: P1.5, for what Join and Num answer.
func TestJoinIsNew(t *testing.T) {
	value, _ := probe.Roomy("hi")
	fields := []api.Field{{Tag: 5, Value: value}}
	a, _ := tlv.Join(fields)
	b, _ := tlv.Join(fields)
	probe.Spoil(value)
	clear(fields)
	probe.Spoil(a)
	if string(b) != "\x05\x00\x02hi" {
		t.Errorf("Join: %q", b)
	}
	m, n := tlv.Num(0x010203), tlv.Num(0x010203)
	probe.Spoil(m)
	if string(n) != "\x01\x02\x03" || string(tlv.Num(0x010203)) != "\x01\x02\x03" {
		t.Errorf("Num: %q", n)
	}
}

// answers gives all that the calls answer to some bytes, and to numbers made of them.
func answers(s string) []any {
	data := []byte(s)
	n := uint64(len(data))
	fields := []api.Field{}
	tags := []int{}
	for i, c := range data {
		n = n*131 + uint64(c)
		tags = append(tags, int(c)-i%3)
		fields = append(fields, api.Field{Tag: int(c) - 1 + i, Value: data[:i]})
	}
	joined, e1 := tlv.Join(fields)
	split, e2 := tlv.Split(data)
	values, e3 := tlv.Values(data, tags)
	inner, e4 := tlv.Values(joined, tags)
	number, ok := tlv.Read(data)
	return []any{joined, e1, split, e2, values, e3, inner, e4, tlv.Num(n), number, ok}
}

// TestAnyArguments: P1 and P2, each call ends, without a panic, and answers the same in a second run.
func TestAnyArguments(t *testing.T) {
	const alphabet, most = "\x00\x01\x02\x03\x80\xff", 5
	if s, parts := probe.Parting(probe.Texts(alphabet, most), answers, reflect.DeepEqual); parts {
		t.Errorf("%q: two runs part", s)
	}
}

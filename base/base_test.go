package base_test

import (
	"math"
	"reflect"
	"slices"
	"strconv"
	"strings"
	"testing"

	"gangway/api"
	"gangway/base"
	"gangway/probe"
)

const longestLife = 1 << 40

// ann gives an ordinary entry.
func ann() api.Entry {
	return api.Entry{Name: "ann@LAND", Key: api.Key{1, 2, 15: 3}, Life: 1000, Flags: api.Forwardable}
}

// numbered gives an entry of a name with a number; they rise with it up to 99.
func numbered(n int) api.Entry {
	return api.Entry{Name: "p" + strconv.Itoa(10+n) + "@LAND", Key: api.Key{byte(n)}, Life: int64(n + 1)}
}

// must puts what must go in.
func must(t *testing.T, b *base.Base, entries ...api.Entry) {
	t.Helper()
	for _, e := range entries {
		if no := b.Put(e); no != api.OK {
			t.Fatalf("%+v: %v", e, no)
		}
	}
}

// has looks whether List tells just these entries.
func has(t *testing.T, b *base.Base, want ...api.Entry) {
	t.Helper()
	if got := b.List(); !slices.Equal(got, want) {
		t.Errorf("%+v, not %+v", got, want)
	}
}

// knows looks whether Get gives just this entry.
func knows(t *testing.T, b *base.Base, want api.Entry) {
	t.Helper()
	if got, ok := b.Get(want.Name); !ok || got != want {
		t.Errorf("%+v, %v, not %+v", got, ok, want)
	}
}

// lacks looks whether Get gives none of a name.
func lacks(t *testing.T, b *base.Base, name string) {
	t.Helper()
	if got, ok := b.Get(name); ok || got != (api.Entry{}) {
		t.Errorf("%q: %+v, %v", name, got, ok)
	}
}

// TestNew: P9.1, at first there is nothing.
func TestNew(t *testing.T) {
	b := base.New()
	has(t, b)
	for _, name := range []string{"ann@LAND", "", "no name"} {
		lacks(t, b, name)
		if b.Drop(name) {
			t.Errorf("%q was there", name)
		}
	}
	has(t, b)
}

// rights gives entries that are right, at the edges of it.
func rights() []api.Entry {
	var all []api.Entry
	for _, name := range probe.Names() {
		e := ann()
		e.Name = name
		all = append(all, e)
	}
	for _, life := range []int64{1, 2, longestLife - 1, longestLife} {
		e := ann()
		e.Life = life
		all = append(all, e)
	}
	for _, flags := range []int{0, 1} {
		e := ann()
		e.Flags = flags
		all = append(all, e)
	}
	return append(all, api.Entry{Name: "ann@LAND", Life: 1}, api.Entry{Name: "ann@LAND", Key: api.Key(probe.Bytes(1, 16)), Life: 5})
}

// wrongs gives entries that aren't right.
func wrongs() []api.Entry {
	all := []api.Entry{{}}
	for _, name := range probe.NotNames() {
		e := ann()
		e.Name = name
		all = append(all, e)
	}
	for _, life := range []int64{0, -1, -1000, longestLife + 1, 2 * longestLife, math.MaxInt64, math.MinInt64} {
		e := ann()
		e.Life = life
		all = append(all, e)
	}
	for _, flags := range []int{-1, 2, 3, 4, 5, 256, 257, math.MaxInt, math.MinInt, math.MinInt + 1} {
		e := ann()
		e.Flags = flags
		all = append(all, e)
	}
	return all
}

// TestPut: P9.1 and P9.2, what is right goes in, field by field, and is the one of its name.
func TestPut(t *testing.T) {
	one := base.New()
	for _, e := range rights() {
		b := base.New()
		must(t, b, e)
		knows(t, b, e)
		has(t, b, e)
		must(t, one, e) // in place of what there was of its name
		knows(t, one, e)
	}
}

// TestPutWrong: P9.1, what isn't right does not go in, whether there is one of its name or not, Off or not, and changes nothing.
func TestPutWrong(t *testing.T) {
	empty, b := base.New(), base.New()
	must(t, b, ann())
	for _, e := range wrongs() {
		for _, off := range []bool{false, true} {
			e.Off = off
			if no := empty.Put(e); no != api.ErrArg {
				t.Errorf("%.100q, %d, %d: %v", e.Name, e.Life, e.Flags, no)
			}
			if no := b.Put(e); no != api.ErrArg {
				t.Errorf("%.100q, %d, %d, beside another: %v", e.Name, e.Life, e.Flags, no)
			}
			lacks(t, empty, e.Name)
		}
	}
	has(t, empty)
	has(t, b, ann())
	knows(t, b, ann())
}

// full gives a base with 16 entries, and these; every third one is Off.
func full(t *testing.T) (*base.Base, []api.Entry) {
	t.Helper()
	b := base.New()
	var all []api.Entry
	for n := range 16 {
		e := numbered(n)
		e.Off = n%3 == 0
		all = append(all, e)
	}
	must(t, b, all...)
	has(t, b, all...)
	return b, all
}

// TestPutFull: P9.1, a 17th does not go in, Off or not; another one of a name that is there does.
func TestPutFull(t *testing.T) {
	b, all := full(t)
	for n := 16; n < 20; n++ {
		e := numbered(n)
		e.Off = n%2 == 0
		if no := b.Put(e); no != api.ErrFull {
			t.Errorf("%d: %v", n, no)
		}
		lacks(t, b, e.Name)
	}
	for _, e := range wrongs() {
		if no := b.Put(e); no != api.ErrArg { // told ahead of ErrFull
			t.Errorf("%.100q: %v", e.Name, no)
		}
	}
	has(t, b, all...)
	for n := range all {
		all[n].Key[9], all[n].Off = 77, n%3 == 1
	}
	must(t, b, all...)
	has(t, b, all...)
}

// TestRoomAgain: P9.1 and P9.2, where one has gone there is room for one, also where it was Off.
func TestRoomAgain(t *testing.T) {
	for n := range 16 {
		b, all := full(t)
		if !b.Drop(all[n].Name) {
			t.Fatalf("%q wasn't there", all[n].Name)
		}
		must(t, b, numbered(16))
		if no := b.Put(numbered(17)); no != api.ErrFull {
			t.Errorf("%d: %v", n, no)
		}
		has(t, b, append(slices.Delete(all, n, n+1), numbered(16))...)
	}
}

// TestGetOff: P9.2, one that is Off is not got, but is told by List; it may be put anew.
func TestGetOff(t *testing.T) {
	b := base.New()
	on, off := ann(), ann()
	off.Off = true
	for range 2 {
		must(t, b, off)
		lacks(t, b, "ann@LAND")
		has(t, b, off)
		must(t, b, on)
		knows(t, b, on)
		has(t, b, on)
	}
}

// TestGetOther: P9.2, names are held against each other whole.
func TestGetOther(t *testing.T) {
	b := base.New()
	must(t, b, ann())
	for _, name := range []string{"", "ann", "ann@", "ann@LAN", "ann@LANDS", "Ann@LAND", "nn@LAND", "ann@LAND\x00", " ann@LAND", "ann/x@LAND"} {
		lacks(t, b, name)
		if b.Drop(name) {
			t.Errorf("%q was there", name)
		}
	}
	knows(t, b, ann())
}

// TestDrop: P9.2, one is dropped once, Off or not, and only it.
func TestDrop(t *testing.T) {
	for n := range 16 {
		b, all := full(t)
		name := all[n].Name
		if !b.Drop(name) || b.Drop(name) {
			t.Errorf("%q wasn't there just once", name)
		}
		lacks(t, b, name)
		has(t, b, slices.Delete(slices.Clone(all), n, n+1)...)
		must(t, b, all[n])
		has(t, b, all...)
	}
}

// TestList: P9.2, the names rise byte by byte, in whatever order they came.
func TestList(t *testing.T) {
	rising := []string{"+@R", "-@R", ".@R", "0@R", "10@R", "2@R", "A@R", "B@A", "Z@R", "_@R", "a+@R", "a/b@R", "a@R", "a@RR", "aa@R", "b@R"}
	for turn := range rising {
		b := base.New()
		var want []api.Entry
		for i := range rising {
			at := (i*7 + turn) % len(rising)
			must(t, b, api.Entry{Name: rising[at], Life: int64(at + 1), Off: at%2 == 0})
		}
		for i, name := range rising {
			want = append(want, api.Entry{Name: name, Life: int64(i + 1), Off: i%2 == 0})
		}
		has(t, b, want...)
	}
}

// TestApart: rule 6, what is done to one base isn't seen in another.
func TestApart(t *testing.T) {
	a, b := base.New(), base.New()
	must(t, a, ann())
	has(t, b)
	lacks(t, b, "ann@LAND")
	must(t, b, numbered(1))
	a.Drop("p11@LAND")
	has(t, a, ann())
	has(t, b, numbered(1))
}

// TestAnswersAreNew: P9.3, a list may be written over, and its spare room; neither the base nor another list has it.
func TestAnswersAreNew(t *testing.T) {
	b, all := full(t)
	one, two := b.List(), b.List()
	room := one[:cap(one)]
	for i := range room {
		room[i] = api.Entry{Name: "x"}
	}
	if !slices.Equal(two, all) {
		t.Errorf("lists share memory: %+v", two)
	}
	has(t, b, all...)
	knows(t, b, all[1])
}

// TestTextsAreNotKept: rule 5, an entry's name may be written over behind the call, and so may that of an answer.
func TestTextsAreNotKept(t *testing.T) {
	b := base.New()
	for range 2 { // the second one comes in place of the first
		e := ann()
		e.Name = strings.Clone(e.Name)
		must(t, b, e)
		spoilText(e.Name)
		knows(t, b, ann())
		has(t, b, ann())
	}
	got, _ := b.Get("ann@LAND")
	spoilText(got.Name)
	knows(t, b, ann())
	spoilText(b.List()[0].Name)
	knows(t, b, ann())
	has(t, b, ann())
}

// model is a base as a list.
type model []api.Entry

// find gives where the entry of a name stands; below 0, if there is none.
func (m model) find(name string) int {
	return slices.IndexFunc(m, func(e api.Entry) bool { return e.Name == name })
}

// put does as Put does with what is right.
func (m *model) put(e api.Entry) api.Errno {
	if i := m.find(e.Name); i >= 0 {
		(*m)[i] = e
	} else if len(*m) == 16 {
		return api.ErrFull
	} else {
		*m = append(*m, e)
	}
	return api.OK
}

// drop does as Drop does.
func (m *model) drop(name string) bool {
	i := m.find(name)
	if i >= 0 {
		*m = slices.Delete(*m, i, i+1)
	}
	return i >= 0
}

// TestLongRun: P9.1 and P9.2, many calls in no order, held against a list.
func TestLongRun(t *testing.T) {
	b := base.New()
	var m model
	met := map[api.Errno]int{}
	for i, c := range probe.Bytes(9, 20000) {
		e := numbered(int(c) % 20)
		e.Life, e.Off = int64(i+1), c&64 != 0
		if c < 170 {
			no := b.Put(e)
			if want := m.put(e); no != want {
				t.Fatalf("%d: Put of %q: %v, not %v", i, e.Name, no, want)
			}
			met[no]++
		} else if got, want := b.Drop(e.Name), m.drop(e.Name); got != want {
			t.Fatalf("%d: Drop of %q: %v", i, e.Name, got)
		}
		at := m.find(e.Name)
		if at >= 0 && !m[at].Off {
			knows(t, b, m[at])
		} else {
			lacks(t, b, e.Name)
		}
		has(t, b, slices.SortedFunc(slices.Values(m), func(a, b api.Entry) int { return strings.Compare(a.Name, b.Name) })...)
	}
	if met[api.OK] == 0 || met[api.ErrFull] == 0 {
		t.Errorf("%v", met)
	}
}

// TestAnyArguments: P1 and P2, each call ends, without a panic, and answers the same in a second run.
func TestAnyArguments(t *testing.T) {
	answers := func(text string) []any {
		b := base.New()
		out := []any{b.Drop(text), b.Put(ann())}
		for i := range text {
			n := int(text[i])
			out = append(out, b.Put(api.Entry{Name: text[i:], Life: int64(n), Flags: n % 3, Off: n%5 == 0}))
			out = append(out, b.Put(api.Entry{Name: text, Life: math.MinInt64, Flags: math.MinInt}))
			out = append(out, b.Put(api.Entry{Name: "x" + text[:i] + "@R", Life: 1 + int64(n), Flags: n % 2}))
		}
		e, ok := b.Get(text)
		return append(out, e, ok, b.List(), b.Drop(text), b.Drop("x@R"), b.List())
	}
	if s, parts := probe.Parting(probe.Texts("a/@.\x00\xff", 6), answers, reflect.DeepEqual); parts {
		t.Errorf("%q: two runs part", s)
	}
}

package telopt_test

import (
	"slices"
	"strings"
	"testing"

	"gangway/api"
	"gangway/telopt"
)

// feeds asserts what Feed answers.
func feeds(t *testing.T, r *telopt.Reader, piece string, want ...api.Tel) {
	t.Helper()
	got, e := r.Feed([]byte(piece))
	if e != api.OK || !slices.EqualFunc(got, want, samePart) {
		t.Errorf("%.60q (%d): %v, %v, not %v", piece, len(piece), tellAll(got), e, tellAll(want))
	}
}

// tellAll gives parts as texts.
func tellAll(parts []api.Tel) []string {
	var list []string
	for _, p := range parts {
		list = append(list, tell(p))
	}
	return list
}

// fails asserts that Feed answers an error and no parts, and from then on just this, whatever comes.
func fails(t *testing.T, r *telopt.Reader, piece string, want api.Errno) {
	t.Helper()
	for _, p := range []string{piece, "", "a", "\xff\xf0", "\xff\x00", "\xff\xfa\x25" + strings.Repeat("x", 3001), "\xff\xfb\x01"} {
		if got, e := r.Feed([]byte(p)); got != nil && len(got) > 0 || e != want {
			t.Errorf("%.60q, then %.60q: %v, %v, not %v", piece, p, tellAll(got), e, want)
		}
	}
}

// TestFeedExample: P22.2, the chapter's example, in two pieces.
func TestFeedExample(t *testing.T) {
	r := telopt.NewReader()
	feeds(t, r, "a\xff", data("a"))
	feeds(t, r, "\xffb", data("\xffb"))
}

// TestFeedData: P22.2, bytes but 255 are data, and two of these are one of them; what is one behind the other in a piece is one part, however long.
func TestFeedData(t *testing.T) {
	for c := range 255 {
		one := string([]byte{byte(c)})
		feeds(t, telopt.NewReader(), one, data(one))
		feeds(t, telopt.NewReader(), one+"\xff\xff"+one, data(one+"\xff"+one))
	}
	r := telopt.NewReader()
	feeds(t, r, "")
	feeds(t, r, "\xff\xff", data("\xff"))
	feeds(t, r, "\xff\xff\xff\xff\xff", data("\xff\xff"))
	feeds(t, r, "\xff\xff", data("\xff"))
	feeds(t, r, "")
	feeds(t, r, "\xff", data("\xff"))
	long := strings.Repeat("long", 5000)
	feeds(t, r, long, data(long))
}

// TestFeedVerb: P22.2, each verb with each option, also of 255, which stands once; data ahead and behind are parts of their own.
func TestFeedVerb(t *testing.T) {
	for v := 251; v <= 254; v++ {
		for option := range 256 {
			bytes := string([]byte{255, byte(v), byte(option)})
			feeds(t, telopt.NewReader(), bytes, verb(v, option))
			r := telopt.NewReader()
			feeds(t, r, "a"+bytes+"b", data("a"), verb(v, option), data("b"))
			feeds(t, r, bytes[:1])
			feeds(t, r, bytes[1:2])
			feeds(t, r, bytes[2:]+bytes, verb(v, option), verb(v, option))
		}
	}
}

// TestFeedSub: P22.2, a part of each option, with each byte as its data; it has come once its 240 has.
func TestFeedSub(t *testing.T) {
	for n := range 256 {
		head, one := string([]byte{255, 250, byte(n)}), string([]byte{byte(n)})
		feeds(t, telopt.NewReader(), head+"\xff\xf0", sub(n, ""))
		if n == 255 {
			feeds(t, telopt.NewReader(), head+"\xff\xff\xff\xf0", sub(n, "\xff"))
		} else {
			feeds(t, telopt.NewReader(), head+one+one+"\xff\xf0", sub(n, one+one))
		}
	}
	r := telopt.NewReader()
	for _, c := range []byte("\xff\xfa\x25a\xff\xffb\xff") {
		feeds(t, r, string([]byte{c}))
	}
	feeds(t, r, "\xf0c\xff\xfa\x26\xff\xf0\xff\xfa\x27\xf0\xff\xf0d", sub(37, "a\xffb"), data("c"), sub(38, ""), sub(39, "\xf0"), data("d"))
}

// TestFeedPassed: P22.2, 241 to 249 behind a 255 are passed over; data on both sides are one part, also more of them.
func TestFeedPassed(t *testing.T) {
	all := ""
	for c := 241; c <= 249; c++ {
		bytes := string([]byte{255, byte(c)})
		all += bytes
		r := telopt.NewReader()
		feeds(t, r, bytes)
		feeds(t, r, "a"+bytes+"b"+bytes, data("ab"))
		feeds(t, r, bytes+"a"+bytes+"\xff\xfb\x01"+bytes+"b", data("a"), verb(251, 1), data("b"))
		feeds(t, r, "a\xff", data("a"))
		feeds(t, r, bytes[1:]+"b", data("b"))
	}
	feeds(t, telopt.NewReader(), all+"a"+all+"b"+all+"\xff\xff"+all, data("ab\xff"))
}

// TestFeedForm: P22.2, 0 to 240 behind a 255 are ErrForm; no part is told with it, though it is whole.
func TestFeedForm(t *testing.T) {
	for c := range 241 {
		bytes := string([]byte{255, byte(c)})
		fails(t, telopt.NewReader(), bytes, api.ErrForm)
		fails(t, telopt.NewReader(), "ab\xff\xfb\x01"+bytes+"cd", api.ErrForm)
		r := telopt.NewReader()
		feeds(t, r, "ab\xff\xfb\x01c\xff", data("ab"), verb(251, 1), data("c"))
		fails(t, r, bytes[1:], api.ErrForm)
	}
}

// TestFeedSubForm: P22.2, in a part of an option a byte behind a 255 that is neither 255 nor 240 is ErrForm.
func TestFeedSubForm(t *testing.T) {
	for c := range 256 {
		bytes := string([]byte{255, byte(c)})
		if c == 255 || c == 240 {
			continue
		}
		fails(t, telopt.NewReader(), "\xff\xfa\x25"+bytes, api.ErrForm)
		fails(t, telopt.NewReader(), "a\xff\xfa\x25bc\xff\xff"+bytes+"\xff\xf0", api.ErrForm)
		r := telopt.NewReader()
		feeds(t, r, "\xff\xfa\xff\xff\xff\xff\xf0\xff\xfa\xff\xff\xff\xff", sub(255, "\xff"))
		fails(t, r, bytes[1:], api.ErrForm)
	}
}

// TestFeedLong: P22.2, a part of an option has 3000 bytes of data, and the 3001st one is ErrLong as soon as it has come, a 255 with its second byte.
func TestFeedLong(t *testing.T) {
	for _, c := range []string{"x", "\xff\xff", "\xf0"} {
		head := "\xff\xfa\x25" + strings.Repeat(c, 3000)
		want := sub(37, strings.Repeat(c[:1], 3000))
		feeds(t, telopt.NewReader(), head+"\xff\xf0", want)
		for _, more := range []string{"x", "\xf0", "\xff\xff", "\xff\xff\xff\xf0", "x\xff\x00", "\xff\xff\xff\x00"} {
			fails(t, telopt.NewReader(), head+more, api.ErrLong)
			fails(t, telopt.NewReader(), "a\xff\xfb\x01"+head+more, api.ErrLong)
		}
		fails(t, telopt.NewReader(), head+"\xff\x00", api.ErrForm)
		r := telopt.NewReader()
		feeds(t, r, head)
		feeds(t, r, "\xff")
		feeds(t, r, "\xf0"+head, want)
		feeds(t, r, "\xff")
		fails(t, r, "\xff", api.ErrLong)
		r = telopt.NewReader()
		feeds(t, r, head)
		fails(t, r, "x", api.ErrLong)
	}
}

// TestFeedSubsAnew: P22.2, each part of an option has its own 3000 bytes, and nothing of the one ahead of it.
func TestFeedSubsAnew(t *testing.T) {
	r := telopt.NewReader()
	a, b := strings.Repeat("a", 3000), strings.Repeat("b", 3000)
	feeds(t, r, "\xff\xfa\x01"+a+"\xff\xf0\xff\xfa\x02"+b+"\xff\xf0\xff\xfd\x03\xff\xfa\x04\xff\xf0", sub(1, a), sub(2, b), verb(253, 3), sub(4, ""))
	feeds(t, r, "\xff\xfe\x05\xff\xfa\x06c\xff\xf0", verb(254, 5), sub(6, "c"))
}

// TestReadersApart: rule 6, what comes to one reader isn't seen in another.
func TestReadersApart(t *testing.T) {
	a, b := telopt.NewReader(), telopt.NewReader()
	feeds(t, a, "\xff\xfa\x25a")
	feeds(t, b, "b", data("b"))
	feeds(t, b, "\xff\xfa\x26b")
	feeds(t, a, "\xff\xf0", sub(37, "a"))
	fails(t, a, "\xff\x01", api.ErrForm)
	feeds(t, b, "\xff\xf0", sub(38, "b"))
	feeds(t, telopt.NewReader(), "c", data("c"))
}

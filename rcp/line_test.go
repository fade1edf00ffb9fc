package rcp_test

import (
	"fmt"
	"regexp"
	"strings"
	"testing"

	"gangway/api"
	"gangway/probe"
	"gangway/rcp"
	"gangway/tree"
)

// rightLine is what a line of a node must be like; the number's bound is looked at apart.
func rightLine() *regexp.Regexp {
	return regexp.MustCompile(`^(?:C[0-7]{2} (0|[1-9][0-9]{0,3})|D[0-7]{2} 0) ([-._A-Za-z0-9]{1,12})\n$`)
}

// takes tells whether a new sink takes a line, which ends with a line feed: a sink over the top of an empty tree, where no path is wrong.
func takes(t *testing.T, text string) bool {
	t.Helper()
	s := rcp.NewSink(tree.New(), "root", "/", true)
	if e := s.Feed([]byte(text[:len(text)-1])); e != api.OK {
		t.Errorf("%q: %v ahead of the line feed", text, e)
	}
	e := s.Feed([]byte(text[len(text)-1:]))
	if e != api.OK && e != api.ErrForm {
		t.Errorf("%q: %v", text, e)
	}
	if again := s.Close(); e == api.ErrForm && (again != e || s.Made() != 0) || e == api.OK && again != api.ErrCopy {
		t.Errorf("%q: %v, then Close %v, %d made", text, e, again, s.Made())
	}
	return e == api.OK
}

// TestLinesNear: P23.3, of all texts that are a right line but for one byte, that one, two more, or a piece left out, just those are lines that are as the chapter says.
func TestLinesNear(t *testing.T) {
	right, met := rightLine(), map[bool]int{}
	is := func(text string) bool {
		m := right.FindStringSubmatch(text)
		return m != nil && m[2] != "." && m[2] != ".." && (len(m[1]) < 4 || m[1] == "1000")
	}
	try := func(text string) {
		if strings.Contains(text, "\n") || len(text) > 80 {
			return
		}
		text += "\n"
		want := is(text)
		if met[want]++; takes(t, text) != want {
			t.Errorf("%q: taken: %v", text, !want)
		}
	}
	for _, line := range []string{"C74 2 f", "D75 0 dir", "C00 1000 a-long_name.", "C77 999 ...", "C10 1001 x", "D01 0 .", "C74 0 ..", "E", "", "C74 10 twelve-bytes", "C74 10 thirteen-byte"} {
		for i := range len(line) + 1 {
			for c := range 256 {
				one := string([]byte{byte(c)})
				if i < len(line) {
					try(line[:i] + one + line[i+1:])
				}
				if text := line[:i] + one + line[i:]; text != "E" {
					try(text)
				}
			}
			for k := i; k <= len(line); k++ {
				if text := line[:i] + line[k:]; text != "E" {
					try(text)
				}
				try(line[:k] + line[i:])
			}
		}
	}
	if met[true] < 1000 || met[false] < 10000 {
		t.Errorf("met %v", met)
	}
}

// TestLineNumbers: P23.3, numbers are 0 to 1000, without noughts or signs ahead; a directory's is 0.
func TestLineNumbers(t *testing.T) {
	for n := range 10001 {
		if got, want := takes(t, fmt.Sprintf("C74 %d f\n", n)), n <= 1000; got != want {
			t.Errorf("%d: %v", n, got)
		}
		if got, want := takes(t, fmt.Sprintf("D74 %d d\n", n)), n == 0; got != want {
			t.Errorf("%d: %v", n, got)
		}
		if takes(t, fmt.Sprintf("C74 0%d f\n", n)) || takes(t, fmt.Sprintf("D74 0%d d\n", n)) {
			t.Errorf("0%d is taken", n)
		}
	}
	for _, n := range []string{"", "-0", "+0", "-1", "+1", "00", "000", "0000", "0x1", "1e2", "1_0", "1.0", "1 ", " 1", "١", "18446744073709551616", "18446744073709551617", "4294967296", "9999999999999999999999"} {
		for _, kind := range []string{"C74 ", "D75 "} {
			if takes(t, kind+n+" f\n") {
				t.Errorf("%q is taken", n)
			}
		}
	}
}

// TestLineModes: P23.3, each two bytes for the mode: two digits 0 to 7 are one, others aren't.
func TestLineModes(t *testing.T) {
	for a := range 256 {
		for b := range 256 {
			if a == '\n' || b == '\n' {
				continue
			}
			mode := string([]byte{byte(a), byte(b)})
			want := '0' <= a && a <= '7' && '0' <= b && b <= '7'
			if takes(t, "C"+mode+" 1 f\n") != want || takes(t, "D"+mode+" 0 d\n") != want {
				t.Errorf("%q: not %v", mode, want)
			}
		}
	}
}

// TestLineNames: P23.3, names are those of layer 19, and no paths.
func TestLineNames(t *testing.T) {
	met := map[bool]int{}
	for name := range probe.Texts("/.a \x00", 5) {
		want := name != "" && !strings.Contains(name, "/") && tree.Path("/"+name)
		met[want]++
		if takes(t, "C74 1 "+name+"\n") != want || takes(t, "D74 0 "+name+"\n") != want {
			t.Errorf("%q: not %v", name, want)
		}
	}
	for n := range 60 {
		if name := strings.Repeat("n", n); takes(t, "C74 1 "+name+"\n") != (1 <= n && n <= 12) {
			t.Errorf("a name of %d bytes", n)
		}
	}
	if met[true] < 40 || met[false] < 1000 {
		t.Errorf("met %v", met)
	}
}

// TestLineLong: P23.3, a line of 80 bytes is none once its line feed has come; the 81st byte without one is ErrForm at once, in whatever pieces.
func TestLineLong(t *testing.T) {
	for _, c := range []string{"x", " ", "\x00", "C74 1 f", "E", "D75 0 d"} {
		long := strings.Repeat(c, 81)[:81]
		for _, ahead := range []string{"", "C74 1 f\nx\x00", "D75 0 d\n"} {
			made := min(len(ahead), 1)
			s := rcp.NewSink(tree.New(), "root", "/", true)
			goesOn(t, s, ahead+long[:80], made)
			fails(t, s, "\n", api.ErrForm, made)
			s = rcp.NewSink(tree.New(), "root", "/", true)
			goesOn(t, s, ahead+long[:80], made)
			fails(t, s, long[80:], api.ErrForm, made)
			fails(t, rcp.NewSink(tree.New(), "root", "/", true), ahead+long, api.ErrForm, made)
			fails(t, rcp.NewSink(tree.New(), "root", "/", true), ahead+strings.Repeat(c, 1000), api.ErrForm, made)
		}
	}
}

// TestFileEnd: P23.3, the byte behind a file's data is a 0, else ErrForm, and nothing is written; the data may be any bytes.
func TestFileEnd(t *testing.T) {
	for c := range 256 {
		one := string([]byte{byte(c)})
		for _, size := range []int{0, 1, 2, 1000} {
			x := tree.New()
			s := rcp.NewSink(x, "root", "/", true)
			data := strings.Repeat(one, size)
			goesOn(t, s, fmt.Sprintf("C74 %d f\n", size)+data, 0)
			if holds(t, x); c == 0 {
				ends(t, s, one, 1)
				holds(t, x, probe.File("/f", "root", 60, data))
				continue
			}
			fails(t, s, one, api.ErrForm, 0)
			holds(t, x)
			ends(t, rcp.NewSink(x, "root", "/", true), fmt.Sprintf("C74 %d f\n", size)+data+"\x00", 1)
			holds(t, x, probe.File("/f", "root", 60, data))
		}
	}
}

// TestEnd: P23.3, an end belongs to a directory of the stream; there is none outside of these, and each has one of its own.
func TestEnd(t *testing.T) {
	for _, path := range []string{"/", "/in", "/new", "/f", "none"} {
		x := probe.Planted(probe.Dir("/in", "root", 61), probe.File("/f", "root", 60, "f"))
		fails(t, rcp.NewSink(x, "root", path, true), "E\n", api.ErrForm, 0)
	}
	for depth := 1; depth <= 6; depth++ {
		s := rcp.NewSink(tree.New(), "root", "/", true)
		for range depth {
			goesOn(t, s, "D75 0 d\n", s.Made()+1)
		}
		for range depth - 1 {
			goesOn(t, s, "E\n", depth)
		}
		ends(t, s, "E\n", depth)
		fails(t, s, "E\n", api.ErrForm, depth)
	}
	for _, end := range []string{"E \n", " E\n", "EE\n", "e\n", "E00 0 x\n", "E\r\n", "E\x00\n"} {
		fails(t, rcp.NewSink(tree.New(), "root", "/", true), "D75 0 d\n"+end, api.ErrForm, 1)
	}
}

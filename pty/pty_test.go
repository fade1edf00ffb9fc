package pty_test

import (
	"slices"
	"strings"
	"testing"

	"gangway/probe"
	"gangway/pty"
)

// What is shown of a byte that goes, of a whole line, and of one that is given up.
const (
	gone  = "\x08 \x08"
	turn  = "\r\n"
	upped = "^C\r\n"
)

// feeds looks whether Feed answers just this.
func feeds(t *testing.T, p *pty.Pty, typed, shown string, lines ...string) {
	t.Helper()
	got, whole := p.Feed([]byte(typed))
	if string(got) != shown || !slices.Equal(whole, lines) {
		t.Errorf("%q: %q, %q, not %q, %q", typed, got, whole, shown, lines)
	}
}

// holds looks whether the line, and how often one was given up, are these.
func holds(t *testing.T, p *pty.Pty, line string, stops int) {
	t.Helper()
	if p.Line() != line || p.Stops() != stops {
		t.Errorf("%q, %d, not %q, %d", p.Line(), p.Stops(), line, stops)
	}
}

// TestExample: the chapter's example.
func TestExample(t *testing.T) {
	p := pty.New()
	feeds(t, p, "lsx\x7f\r", "lsx"+gone+turn, "ls")
	holds(t, p, "", 0)
}

// TestNew: P21.1, the line is empty, and nothing that is typed shows nothing.
func TestNew(t *testing.T) {
	p := pty.New()
	holds(t, p, "", 0)
	feeds(t, p, "", "")
	holds(t, p, "", 0)
	if shown, lines := p.Feed(nil); len(shown) != 0 || len(lines) != 0 {
		t.Errorf("%q, %q", shown, lines)
	}
}

// TestEachByte: P21.1, what each byte does to an empty line, to one of two bytes, and to a full one.
func TestEachByte(t *testing.T) {
	for _, line := range []string{"", "ab", strings.Repeat("x", 80)} {
		for n := range 256 {
			c := string([]byte{byte(n)})
			p := pty.New()
			feeds(t, p, line, line)
			switch {
			case n == 13 || n == 10:
				feeds(t, p, c, turn, line)
				holds(t, p, "", 0)
			case (n == 8 || n == 127) && line != "":
				feeds(t, p, c, gone)
				holds(t, p, line[:len(line)-1], 0)
			case n == 21:
				feeds(t, p, c, strings.Repeat(gone, len(line)))
				holds(t, p, "", 0)
			case n == 3:
				feeds(t, p, c, upped)
				holds(t, p, "", 1)
			case n < 32 || n > 126:
				feeds(t, p, c, "")
				holds(t, p, line, 0)
			case len(line) == 80:
				feeds(t, p, c, "\a")
				holds(t, p, line, 0)
			default:
				feeds(t, p, c, c)
				holds(t, p, line+c, 0)
			}
		}
	}
}

// TestReturns: P21.1, a 10 right behind a 13 is passed over, one alone, or behind anything else, isn't.
func TestReturns(t *testing.T) {
	for _, c := range []struct {
		typed, shown string
		lines        []string
	}{
		{"\r", turn, []string{""}}, {"\n", turn, []string{""}}, {"\r\n", turn, []string{""}}, {"\n\r", turn + turn, []string{"", ""}}, {"\r\r", turn + turn, []string{"", ""}}, {"\n\n", turn + turn, []string{"", ""}},
		{"\r\n\n", turn + turn, []string{"", ""}}, {"\r\r\n", turn + turn, []string{"", ""}}, {"\r\n\r\n", turn + turn, []string{"", ""}}, {"\n\r\n", turn + turn, []string{"", ""}},
		{"a\rb\nc\r\nd", "a" + turn + "b" + turn + "c" + turn + "d", []string{"a", "b", "c"}}, {"a\r\x00\nb", "a" + turn + turn + "b", []string{"a", ""}}, {"\r\x08\n", turn + turn, []string{"", ""}},
		{"\r\x15\n", turn + turn, []string{"", ""}}, {"\r\x03\n", turn + upped + turn, []string{"", ""}}, {"\ra\n", turn + "a" + turn, []string{"", "a"}}, {"\r\xff\n", turn + turn, []string{"", ""}}, {"\r \n", turn + " " + turn, []string{"", " "}},
	} {
		feeds(t, pty.New(), c.typed, c.shown, c.lines...)
	}
	p := pty.New()
	feeds(t, p, "a\r", "a"+turn, "a")
	feeds(t, p, "\n", "")
	feeds(t, p, "\n", turn, "")
	feeds(t, p, "b\r", "b"+turn, "b")
	feeds(t, p, "", "") // nothing typed is nothing between
	feeds(t, p, "\nc\n", "c"+turn, "c")
	feeds(t, p, "\r", turn, "")
	feeds(t, p, "\x01", "")
	feeds(t, p, "\n", turn, "")
}

// TestRub: P21.1, 8 and 127 do the same, and nothing to an empty line.
func TestRub(t *testing.T) {
	for _, c := range []string{"\x08", "\x7f"} {
		p := pty.New()
		feeds(t, p, c+c, "")
		feeds(t, p, "abc"+c, "abc"+gone)
		holds(t, p, "ab", 0)
		feeds(t, p, "d"+c+c+"e", "d"+gone+gone+"e")
		holds(t, p, "ae", 0)
		feeds(t, p, c+c+c+c, gone+gone)
		holds(t, p, "", 0)
		feeds(t, p, "f\r"+c, "f"+turn, "f")
		feeds(t, p, "g\x03"+c, "g"+upped)
		holds(t, p, "", 1)
	}
}

// TestRubLine: P21.1, by 21 all of the line goes, as often shown as it had bytes.
func TestRubLine(t *testing.T) {
	for n := range 81 {
		p := pty.New()
		line := strings.Repeat("y", n)
		feeds(t, p, line+"\x15", line+strings.Repeat(gone, n))
		holds(t, p, "", 0)
		feeds(t, p, "\x15a\x15\x15\r", "a"+gone+turn, "")
	}
}

// TestStop: P21.1 and P21.2, by 3 a line is given up, an empty one too; each time is counted, and nothing else.
func TestStop(t *testing.T) {
	p := pty.New()
	feeds(t, p, "\x03", upped)
	holds(t, p, "", 1)
	feeds(t, p, "abc\x03de", "abc"+upped+"de")
	holds(t, p, "de", 2)
	feeds(t, p, "\x03\x03\x03", upped+upped+upped)
	holds(t, p, "", 5)
	feeds(t, p, "ls\rx\x08\x15\n"+strings.Repeat("x", 81), "ls"+turn+"x"+gone+turn+strings.Repeat("x", 80)+"\a", "ls", "")
	holds(t, p, strings.Repeat("x", 80), 5)
	feeds(t, p, "\x03", upped)
	holds(t, p, "", 6)
	feeds(t, p, strings.Repeat("\x03", 1000), strings.Repeat(upped, 1000))
	holds(t, p, "", 1006)
}

// TestFull: P21.1, a line of 80 bytes takes no more, and shows 7 for each; when one has gone it takes one again.
func TestFull(t *testing.T) {
	line := strings.Repeat("0123456789", 8)
	p := pty.New()
	feeds(t, p, line[:79], line[:79])
	feeds(t, p, line[79:], line[79:])
	feeds(t, p, "abc", "\a\a\a")
	holds(t, p, line, 0)
	feeds(t, p, "\x7fxy", gone+"x\a")
	holds(t, p, line[:79]+"x", 0)
	feeds(t, p, "\r\n", turn, line[:79]+"x")
	feeds(t, p, line+"z\x15"+line+"zz\n", line+"\a"+strings.Repeat(gone, 80)+line+"\a\a"+turn, line)
	feeds(t, p, line+line+"\x03"+line+"\r", line+strings.Repeat("\a", 80)+upped+line+turn, line)
	holds(t, p, "", 1)
}

// TestLine: P21.2, the line that isn't whole is told as often as it is asked for.
func TestLine(t *testing.T) {
	p := pty.New()
	for i := range 80 {
		feeds(t, p, "~", "~")
		holds(t, p, strings.Repeat("~", i+1), 0)
		holds(t, p, strings.Repeat("~", i+1), 0)
	}
	feeds(t, p, "\n", turn, strings.Repeat("~", 80))
	holds(t, p, "", 0)
}

// TestApart: rule 6, what is typed at one terminal isn't seen at another.
func TestApart(t *testing.T) {
	a, b := pty.New(), pty.New()
	feeds(t, a, "ab\x03c\r", "ab"+upped+"c"+turn, "c")
	holds(t, b, "", 0)
	feeds(t, b, "\nx", turn+"x", "")
	feeds(t, a, "\n", "")
	holds(t, a, "", 1)
	holds(t, b, "x", 0)
}

// TestNothingIsKept: rule 5, what was typed stays as it is, with its spare room, and may be written over.
func TestNothingIsKept(t *testing.T) {
	p := pty.New()
	typed, all := probe.Roomy("one\rtw")
	shown, lines := p.Feed(typed)
	if string(all) != "one\rtw"+probe.Spare {
		t.Errorf("%q", all)
	}
	probe.Spoil(typed)
	if string(shown) != "one"+turn+"tw" || !slices.Equal(lines, []string{"one"}) {
		t.Errorf("%q, %q", shown, lines)
	}
	holds(t, p, "tw", 0)
	feeds(t, p, "o\r", "o"+turn, "two")
}

// TestAnswersAreNew: rule 5, what is answered may be written over, with its spare room and its texts; nothing else has it.
func TestAnswersAreNew(t *testing.T) {
	p := pty.New()
	for range 3 {
		line := p.Line()
		shown, lines := p.Feed([]byte("ab\rcd\ref"))
		more, others := p.Feed([]byte("\x08g\rhi")) // a text of one byte is one of the run time's own
		now, again := p.Line(), p.Line()
		for _, text := range append(lines, line, now) {
			spoilText(text)
		}
		probe.Spoil(shown)
		room := lines[:cap(lines)]
		for i := range room {
			room[i] = "x"
		}
		if string(more) != gone+"g"+turn+"hi" || !slices.Equal(others, []string{"eg"}) || again != "hi" {
			t.Errorf("%q, %q, %q", more, others, again)
		}
		holds(t, p, "hi", 0)
		feeds(t, p, "\x15", gone+gone)
	}
}

package pty_test

import (
	"reflect"
	"slices"
	"strings"
	"testing"

	"gangway/probe"
	"gangway/pty"
)

// told is all that a terminal tells of what was typed.
type told struct {
	shown string
	lines []string
	line  string
	stops int
}

// same tells whether two terminals have told the same.
func same(a, b told) bool {
	return a.shown == b.shown && slices.Equal(a.lines, b.lines) && a.line == b.line && a.stops == b.stops
}

// twin tells what a terminal tells of all that was typed, by parting that at the bytes that end lines.
func twin(typed string) told {
	typed = strings.ReplaceAll(typed, "\r\n", "\r") // once through: a 10 behind that one stays
	typed = strings.NewReplacer("\n", "\r", "\x7f", "\x08").Replace(typed)
	var out told
	for typed != "" {
		end := strings.IndexAny(typed, "\r\x03")
		if end < 0 {
			shown, line := edit(typed)
			out.shown += shown
			out.line = line
			return out
		}
		shown, line := edit(typed[:end])
		out.shown += shown
		if typed[end] == 3 {
			out.shown += upped
			out.stops++
		} else {
			out.shown += turn
			out.lines = append(out.lines, line)
		}
		typed = typed[end+1:]
	}
	return out
}

// edit tells what is shown of bytes that end no line, and the line behind them.
func edit(typed string) (shown, line string) {
	for _, c := range []byte(typed) {
		goes := map[byte]int{8: min(1, len(line)), 21: len(line)}[c]
		line = line[:len(line)-goes]
		shown += strings.Repeat(gone, goes)
		switch {
		case c < ' ' || c > '~':
		case len(line) < 80:
			line += string(rune(c))
			shown += string(rune(c))
		default:
			shown += "\a"
		}
	}
	return shown, line
}

// inPieces gives what a new terminal tells of pieces, put together.
func inPieces(pieces ...string) told {
	p := pty.New()
	var out told
	for _, piece := range pieces {
		shown, lines := p.Feed([]byte(piece))
		out.shown += string(shown)
		out.lines = append(out.lines, lines...)
	}
	out.line, out.stops = p.Line(), p.Stops()
	return out
}

// TestAllShort: P21.1 to P21.3, each short text of bytes that mean something: a twin's answer, in one piece, byte by byte, and in any two pieces.
func TestAllShort(t *testing.T) {
	for typed := range probe.Texts("\r\n\x08\x7f\x15\x03a\x00", 5) {
		want := twin(typed)
		if got := inPieces(typed); !same(got, want) {
			t.Errorf("%q: %+v, not %+v", typed, got, want)
		}
		if got := inPieces(strings.Split(typed, "")...); !same(got, want) {
			t.Errorf("%q, byte by byte: %+v, not %+v", typed, got, want)
		}
		for i := range len(typed) {
			if got := inPieces(typed[:i], typed[i:]); !same(got, want) {
				t.Errorf("%q, %q: %+v, not %+v", typed[:i], typed[i:], got, want)
			}
		}
	}
}

// TestLongRun: P21.1 to P21.3, many bytes in no order, in pieces of many sizes, tell what a twin tells.
func TestLongRun(t *testing.T) {
	met := told{}
	bells := 0
	for seed := range uint64(300) {
		d := probe.NewDice(seed)
		var pieces []string
		for range 60 {
			pieces = append(pieces, somePiece(d))
		}
		typed := strings.Join(pieces, "")
		want := twin(typed)
		if got := inPieces(pieces...); !same(got, want) {
			t.Fatalf("seed %d, in pieces: %+v, not %+v", seed, got, want)
		}
		if got := inPieces(typed); !same(got, want) {
			t.Fatalf("seed %d, in one piece: %+v, not %+v", seed, got, want)
		}
		met.lines = append(met.lines, want.lines...)
		met.stops += want.stops
		bells += strings.Count(want.shown, "\a")
	}
	if full := slices.DeleteFunc(slices.Clone(met.lines), func(s string) bool { return len(s) < 80 }); len(met.lines) < 1000 || len(full) < 100 || met.stops < 500 || bells < 1000 {
		t.Errorf("%d lines, %d full ones, %d stops, %d bells", len(met.lines), len(full), met.stops, bells)
	}
}

// somePiece gives bytes that may be typed; most often some that are shown.
func somePiece(d *probe.Dice) string {
	switch d.Roll(10) {
	case 0, 1, 2:
		return []string{"\r", "\n", "\r\n", "\x08", "\x7f", "\x15", "\x03", "\x7f\x7f"}[d.Roll(8)]
	case 3:
		return d.Text(d.Roll(6))
	case 4:
		return strings.Repeat("z", d.Roll(90))
	}
	piece := ""
	for range d.Roll(12) {
		piece += string(rune(32 + d.Roll(95)))
	}
	return piece
}

// TestMuchTyped: P21.1, much that is typed at once.
func TestMuchTyped(t *testing.T) {
	const n = 20000
	p := pty.New()
	feeds(t, p, strings.Repeat("ls /\r\n", n), strings.Repeat("ls /\r\n", n), slices.Repeat([]string{"ls /"}, n)...)
	feeds(t, p, strings.Repeat("x", n), strings.Repeat("x", 80)+strings.Repeat("\a", n-80))
	feeds(t, p, strings.Repeat("\x08", n), strings.Repeat(gone, 80))
	feeds(t, p, strings.Repeat("\x03", n), strings.Repeat(upped, n))
	holds(t, p, "", n)
}

// TestAnyArguments: P1 and P2, each call ends, without a panic, and answers the same in a second run.
func TestAnyArguments(t *testing.T) {
	answers := func(text string) []any {
		p := pty.New()
		var out []any
		for range 2 {
			shown, lines := p.Feed([]byte(text))
			out = append(out, shown, lines, p.Line(), p.Stops())
		}
		return out
	}
	if s, parts := probe.Parting(probe.Texts("\r\n\x08\x15\x03a\xff", 5), answers, reflect.DeepEqual); parts {
		t.Errorf("%q: two runs part", s)
	}
}

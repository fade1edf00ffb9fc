package shell_test

import (
	"regexp"
	"slices"
	"strings"
	"testing"

	"gangway/probe"
	"gangway/shell"
)

// TestWords: P20.1, the longest pieces without blanks, in order; the byte 32 alone is one.
func TestWords(t *testing.T) {
	for _, c := range []struct {
		line string
		want []string
	}{
		{"", nil}, {" ", nil}, {"     ", nil}, {"a", []string{"a"}}, {" a", []string{"a"}}, {"a ", []string{"a"}}, {"a b", []string{"a", "b"}}, {"  a   bc  d ", []string{"a", "bc", "d"}},
		{"a a a", []string{"a", "a", "a"}}, {"put /f a  b", []string{"put", "/f", "a", "b"}}, {"a\tb\nc", []string{"a\tb\nc"}}, {"\t \n \r", []string{"\t", "\n", "\r"}},
		{"\x00 \xff", []string{"\x00", "\xff"}}, {"\u00a0 \u2003 \u3000", []string{"\u00a0", "\u2003", "\u3000"}}, {"\xc2 \xa0 \xe2\x80 ", []string{"\xc2", "\xa0", "\xe2\x80"}}, {"\"a b\"", []string{"\"a", "b\""}},
	} {
		if got := shell.Words(c.line); !slices.Equal(got, c.want) {
			t.Errorf("%q: %q", c.line, got)
		}
	}
}

// TestAllWords: P20.1, each short line's words are those that an expression finds.
func TestAllWords(t *testing.T) {
	word := regexp.MustCompile("[^ ]+")
	for line := range probe.Texts(" ab\t\x00\xe2", 6) {
		if got, want := shell.Words(line), word.FindAllString(line, -1); !slices.Equal(got, want) {
			t.Errorf("%q: %q, not %q", line, got, want)
		}
	}
	for c := range 256 {
		line := string([]byte{'a', byte(c), 'b'})
		if got := shell.Words(line); len(got) != 1 != (c == ' ') || strings.Join(got, " ") != line {
			t.Errorf("%q: %q", line, got)
		}
	}
}

// TestLongWords: P20.1, a line of any length has its words, more bytes than a shell runs, too.
func TestLongWords(t *testing.T) {
	for _, n := range []int{80, 81, 1000, 1 << 20} {
		if got := shell.Words(strings.Repeat("x", n)); len(got) != 1 || got[0] != strings.Repeat("x", n) {
			t.Errorf("%d: %d words", n, len(got))
		}
		if got := shell.Words(strings.Repeat("x  ", n)); len(got) != n || got[n-1] != "x" {
			t.Errorf("%d: %d words", n, len(got))
		}
		if got := shell.Words(strings.Repeat(" ", n)); len(got) != 0 {
			t.Errorf("%d: %d words", n, len(got))
		}
	}
}

package probe_test

import (
	"reflect"
	"slices"
	"strings"
	"testing"

	"gangway/probe"
)

// TestTexts: each text is there once, and a caller may end early.
func TestTexts(t *testing.T) {
	got := slices.Collect(probe.Texts("ab", 2))
	if want := []string{"", "a", "aa", "ab", "b", "ba", "bb"}; !slices.Equal(got, want) {
		t.Errorf("%q", got)
	}
	for s := range probe.Texts("ab", 1000) {
		if len(s) == 100 {
			break
		}
	}
	if got := slices.Collect(probe.Texts("ab", 0)); len(got) != 1 || got[0] != "" {
		t.Errorf("%q", got)
	}
}

// TestSpoil: what shares memory with a spoiled list is seen to, its spare room too.
func TestSpoil(t *testing.T) {
	b, all := probe.Roomy("hi")
	if string(b) != "hi" || string(all) != "hi"+probe.Spare {
		t.Fatalf("%q, %q", b, all)
	}
	for range 2 {
		probe.Spoil(b)
		if string(all) != strings.Repeat("\xaa", len(all)) {
			t.Errorf("%q", all)
		}
	}
}

// TestBytes: as many as are asked for, the same ones for a seed, others for another, and each byte among them.
func TestBytes(t *testing.T) {
	for _, n := range []int{0, 1, 100} {
		if a, b := probe.Bytes(7, n), probe.Bytes(7, n); len(a) != n || !slices.Equal(a, b) {
			t.Errorf("%d: %v, %v", n, a, b)
		}
	}
	if slices.Equal(probe.Bytes(7, 100), probe.Bytes(8, 100)) {
		t.Error("two seeds give the same")
	}
	met := map[byte]int{}
	for _, c := range probe.Bytes(7, 10000) {
		met[c]++
	}
	if len(met) != 256 {
		t.Errorf("%d bytes were met", len(met))
	}
}

// TestDice: numbers below what is asked for, each of them about as often, and texts that are as long; the same ones for a seed, others for another.
func TestDice(t *testing.T) {
	for _, n := range []int{1, 2, 7, 64, 1000} {
		a, b, other := probe.NewDice(uint64(n)), probe.NewDice(uint64(n)), probe.NewDice(uint64(n+1))
		met, alike := make([]int, n), 0
		for range 100 * n {
			r := a.Roll(n)
			if r < 0 || r >= n || r != b.Roll(n) {
				t.Fatalf("%d of %d", r, n)
			}
			if r == other.Roll(n) {
				alike++
			}
			met[r]++
		}
		if slices.Min(met) < 50 || slices.Max(met) > 150 {
			t.Errorf("of %d one was met %d times, and one %d times", n, slices.Min(met), slices.Max(met))
		}
		if n > 1 && alike > 75*n {
			t.Errorf("of %d two seeds gave the same %d times", n, alike)
		}
		text := a.Text(n)
		if len(text) != n || text != b.Text(n) || n > 2 && (text == other.Text(n) || text == a.Text(n)) {
			t.Errorf("%q", text)
		}
	}
}

// TestPick: each one of a list is given, about as often as the others, by one roll.
func TestPick(t *testing.T) {
	d, again := probe.NewDice(3), probe.NewDice(3)
	met := map[string]int{}
	for range 300 {
		text := probe.Pick(d, []string{"a", "b", "c"})
		if text != []string{"a", "b", "c"}[again.Roll(3)] {
			t.Fatal(text)
		}
		met[text]++
	}
	if len(met) != 3 || met["a"] < 50 || met["b"] < 50 || met["c"] < 50 {
		t.Errorf("%v", met)
	}
}

// TestCut: the pieces are the text; some are empty, some short, some long.
func TestCut(t *testing.T) {
	d, again := probe.NewDice(1), probe.NewDice(1)
	if pieces := d.Cut(""); len(pieces) != 0 || len(again.Cut("")) != 0 {
		t.Errorf("%q", pieces)
	}
	var met [3]int
	for n := range 300 {
		text := probe.NewDice(uint64(n)).Text(n * 10)
		pieces := d.Cut(text)
		if strings.Join(pieces, "") != text || !slices.Equal(pieces, again.Cut(text)) {
			t.Errorf("%d bytes: %q", len(text), pieces)
		}
		for _, piece := range pieces {
			switch {
			case piece == "":
				met[0]++
			case len(piece) < 100:
				met[1]++
			default:
				met[2]++
			}
		}
	}
	if slices.Min(met[:]) < 100 {
		t.Errorf("met %v", met)
	}
}

// TestDiffer: runs part at the first text that is another one, or that only one of them told.
func TestDiffer(t *testing.T) {
	for _, x := range []struct {
		one, two []string
		want     string
	}{
		{nil, nil, ""}, {nil, []string{}, ""}, {[]string{"a", "b"}, []string{"a", "b"}, ""}, {[]string{"a", "b", "c"}, []string{"a", "x", "y"}, "1: b, not x"}, {[]string{"a"}, []string{"a", "b"}, "1 texts, not 2"},
		{[]string{"a", "b"}, []string{"a"}, "2 texts, not 1"}, {[]string{""}, nil, "1 texts, not 0"}, {nil, []string{""}, "0 texts, not 1"},
	} {
		if got := probe.Differ(x.one, x.two); got != x.want {
			t.Errorf("%q, %q: %q, not %q", x.one, x.two, got, x.want)
		}
	}
}

// TestParting: what hangs on its text alone parts nowhere, what counts its calls at once, and what changes later where it does.
func TestParting(t *testing.T) {
	texts := probe.Texts("ab", 2)
	if s, parts := probe.Parting(texts, func(s string) []string { return []string{s} }, reflect.DeepEqual); parts || s != "" {
		t.Errorf("%q, %v", s, parts)
	}
	n := 0
	count := func(string) int {
		n++
		return n
	}
	if s, parts := probe.Parting(texts, count, reflect.DeepEqual); !parts || s != "" {
		t.Errorf("%q, %v", s, parts)
	}
	n = 0
	if s, parts := probe.Parting(texts, func(s string) int { return count(s) / 12 }, reflect.DeepEqual); !parts || s != "b" {
		t.Errorf("%q, %v", s, parts)
	}
}

package probe_test

import (
	"slices"
	"strings"
	"testing"

	"gangway/probe"
)

// TestTexts: each text is there once, and a caller may end early.
func TestTexts(t *testing.T) {
	got := slices.Collect(probe.Texts("ab", 2))
	if want := []string{"", "a", "aa", "ab", "b", "ba", "bb"}; !slices.Equal(got, want) {
		t.Errorf("%q", got)
	}
	for s := range probe.Texts("ab", 1000) {
		if len(s) == 100 {
			break
		}
	}
	if got := slices.Collect(probe.Texts("ab", 0)); len(got) != 1 || got[0] != "" {
		t.Errorf("%q", got)
	}
}

// TestSpoil: what shares memory with a spoiled list is seen to, its spare room too.
func TestSpoil(t *testing.T) {
	b, all := probe.Roomy("hi")
	if string(b) != "hi" || string(all) != "hi"+probe.Spare {
		t.Fatalf("%q, %q", b, all)
	}
	for range 2 {
		probe.Spoil(b)
		if string(all) != strings.Repeat("\xaa", len(all)) {
			t.Errorf("%q", all)
		}
	}
}

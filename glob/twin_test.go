package glob_test

import (
	"regexp"
	"strings"
	"testing"

	"gangway/api"
	"gangway/glob"
	"gangway/probe"
)

// A pattern's parts and a set's items, written as the library's expressions over runes, of which each stands for a byte.
const (
	anItem = `[^\]-](?:-[^\]-])?`
	aSet   = `\[(?:!(?:` + anItem + `)+|[^\]!-](?:-[^\]-])?(?:` + anItem + `)*)\]`
	aPart  = `\*|\?|` + aSet + `|\\.|[^*?\[\\]`
)

var (
	whole = regexp.MustCompile(`(?s)^(?:` + aPart + `)*$`)
	parts = regexp.MustCompile(`(?s)` + aPart)
	items = regexp.MustCompile(`(?s)` + anItem)
)

// wide gives a text with a rune for each byte.
func wide(s string) string {
	var b strings.Builder
	for i := range len(s) {
		b.WriteRune(rune(s[i]))
	}
	return b.String()
}

// twin is a pattern as the library's expressions have it; plain is its text, if it stands for just one.
type twin struct {
	all     *regexp.Regexp
	text    string
	isPlain bool
}

// twinOf gives the twin of a pattern, if it is right.
func twinOf(pattern string) (twin, api.Errno) {
	pattern = wide(pattern)
	if len([]rune(pattern)) > 32 {
		return twin{}, api.ErrLong
	}
	if !whole.MatchString(pattern) {
		return twin{}, api.ErrForm
	}
	w, all := twin{isPlain: true}, `(?s)^`
	for _, p := range parts.FindAllString(pattern, -1) {
		switch {
		case p == "*":
			all, w.isPlain = all+`.*`, false
		case p == "?":
			all, w.isPlain = all+`.`, false
		case p[0] == '[':
			class, right := classOf(p)
			if !right {
				return twin{}, api.ErrForm
			}
			all, w.isPlain = all+class, false
		default:
			told := p
			if p[0] == '\\' {
				told = p[1:]
			}
			all, w.text = all+regexp.QuoteMeta(told), w.text+told
		}
	}
	w.all = regexp.MustCompile(all + `$`)
	return w, api.OK
}

// classOf gives a set as a class, if no range of it falls.
func classOf(p string) (string, bool) {
	inside := p[1 : len(p)-1]
	class := `[`
	if inside[0] == '!' {
		class, inside = `[^`, inside[1:]
	}
	for _, item := range items.FindAllString(inside, -1) {
		r := []rune(item)
		if r[0] > r[len(r)-1] {
			return "", false
		}
		class += regexp.QuoteMeta(string(r[0])) + `-` + regexp.QuoteMeta(string(r[len(r)-1]))
	}
	return class + `]`, true
}

// met counts what a run has met.
type met struct{ right, form, long, has, not, plain int }

// holds looks whether a pattern is answered as by its twin, of all the texts.
func (m *met) holds(t *testing.T, pattern string, texts []string) {
	t.Helper()
	w, want := twinOf(pattern)
	if e := glob.Check(pattern); e != want {
		t.Fatalf("%q: %v, not %v", pattern, e, want)
	}
	switch want {
	case api.OK:
		m.right++
	case api.ErrForm:
		m.form++
	case api.ErrLong:
		m.long++
	}
	text, plain := glob.Plain(pattern)
	wantPlain := want == api.OK && w.isPlain
	if plain != wantPlain || plain && wide(text) != w.text || !plain && text != "" {
		t.Fatalf("%q: %q, %v", pattern, text, plain)
	}
	if plain {
		m.plain++
	}
	for _, text := range texts {
		is := want == api.OK && w.all.MatchString(wide(text))
		if got := glob.Match(pattern, text); got != is {
			t.Fatalf("%q, %q: %v", pattern, text, got)
		}
		if is {
			m.has++
		} else {
			m.not++
		}
	}
}

// list gives all texts of at most so many bytes.
func list(alphabet string, most int) []string {
	var all []string
	for s := range probe.Texts(alphabet, most) {
		all = append(all, s)
	}
	return all
}

// TestAllShort: P15.1 to P15.3, all short patterns of the bytes that mean something, of short texts of them.
func TestAllShort(t *testing.T) {
	var m met
	texts := list("ab-]!\\*", 2)
	for pattern := range probe.Texts("*?[]!-\\ab", 4) {
		m.holds(t, pattern, texts)
	}
	for pattern := range probe.Texts("[]!-\\b", 6) {
		m.holds(t, pattern, nil)
	}
	for inside := range probe.Texts("!-ac\\[", 5) {
		m.holds(t, "["+inside+"]", []string{"a", "b", "c", "!", "-", "\\", "[", "]", "", "ac"})
	}
	if m.right < 1000 || m.form < 1000 || m.has < 1000 || m.not < 1000 || m.plain < 100 {
		t.Errorf("%+v", m)
	}
}

// TestAllStars: P15.2, all short patterns with stars, of all short texts.
func TestAllStars(t *testing.T) {
	var m met
	texts := list("ab", 6)
	for pattern := range probe.Texts("*?ab", 5) {
		m.holds(t, pattern, texts)
	}
	if m.right != 1+4+16+64+256+1024 || m.has < 1000 || m.not < 1000 {
		t.Errorf("%+v", m)
	}
}

// TestLongOnes: P15.1 to P15.3, longer patterns of pieces in no order, of texts in no order.
func TestLongOnes(t *testing.T) {
	pieces := []string{"*", "*", "*", "?", "a", "b", "a", "\\a", "\\*", "[ab]", "[!a]", "[a-b]", "[!\x80-\xff]", "*a", "[]", "\xe4", "-", "a*", "ab"}
	var m met
	random := probe.Bytes(15, 1<<17)
	next := func(n int) int {
		c := random[0]
		random = random[1:]
		return int(c) % n
	}
	for len(random) > 300 {
		var pattern string
		for range next(16) {
			pattern += pieces[next(len(pieces))]
		}
		var texts []string
		for range 4 {
			var text []byte
			for range next(24) {
				text = append(text, "aaabbb*\xe4"[next(8)])
			}
			texts = append(texts, string(text))
		}
		m.holds(t, pattern, texts)
	}
	if m.right < 500 || m.form < 50 || m.long < 20 || m.has < 100 || m.not < 1000 {
		t.Errorf("%+v", m)
	}
}

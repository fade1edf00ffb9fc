package glob_test

import (
	"reflect"
	"strings"
	"testing"
	"time"
	"unsafe"

	"gangway/api"
	"gangway/glob"
	"gangway/probe"
)

// checks looks whether Check answers this, and the others nothing but to what is right.
func checks(t *testing.T, pattern string, want api.Errno) {
	t.Helper()
	if e := glob.Check(pattern); e != want {
		t.Errorf("%q: %v, not %v", pattern, e, want)
	}
	if want == api.OK {
		return
	}
	for _, text := range []string{"", pattern, "a", "a]", strings.Trim(pattern, "\\")} {
		if glob.Match(pattern, text) {
			t.Errorf("%q has %q", pattern, text)
		}
	}
	if text, plain := glob.Plain(pattern); text != "" || plain {
		t.Errorf("%q: %q, %v", pattern, text, plain)
	}
}

// matches looks whether Match answers this.
func matches(t *testing.T, pattern, text string, want bool) {
	t.Helper()
	if got := glob.Match(pattern, text); got != want {
		t.Errorf("%q, %q: %v", pattern, text, got)
	}
}

// TestExample: the chapter's example.
func TestExample(t *testing.T) {
	matches(t, "a*[!x-z]?", "a12", true)
	matches(t, "a*[!x-z]?", "abcd", true)
	matches(t, "a*[!x-z]?", "axy", false)
}

// TestRight: P15.1, patterns that are right.
func TestRight(t *testing.T) {
	for _, pattern := range []string{
		"", "a", "*", "?", "***", "]", "-", "!", "a]", "]]", "-a-", "\\\\", "\\a", "\\[", "\\]", "\\*\\?", "a\\\\", "\\\\\\a", "\x00", "\xff", "\n", "ä",
		"[a]", "[ab]", "[a-b]", "[a-a]", "[a-bc-d]", "[a-bc]", "[ca-b]", "[!a]", "[!!]", "[!!!]", "[!a-b]", "[!!-a]", "[a!]", "[a!-b]", "[a-zA-Z0-9]",
		"[\\]", "[\\]]", "[!\\]", "[\\-a]", "[A-\\]", "[[]", "[[]]", "[*]", "[?]", "[*?[]", "[[-a]", "[\x00-\xff]", "[!\x00-\xff]", "[\xff]", "[aa]", "[ -~]",
		"[a][b]", "[a]]", "[a]-[b]", "*[a]?\\]]", "\\[a]", "\\[]", "\\\\[a]",
	} {
		checks(t, pattern, api.OK)
	}
}

// TestWrong: P15.1, patterns that aren't right: a backslash without a byte, and each wrong kind of a set.
func TestWrong(t *testing.T) {
	for _, pattern := range []string{
		"\\", "a\\", "*\\", "\\\\\\", "\\a\\", "[a]\\", // a backslash at the end
		"[", "a[", "[a", "[!", "[!a", "[a-", "[a-b", "[\\", "[\\a", "[[", "[]", "a[]", "[]a", "[][", "*[", "[a][", "\\\\[", // no ], or no item
		"[!]", "[]]", "[!]]", "[!]a]", "[][a]", "[a][]", "[a][!]",
		"[-]", "[-a]", "[a-]", "[a--]", "[--a]", "[---]", "[!-]", "[!-a]", "[!a-]", "[a-b-c]", "[a-b-]", "[ab-]", "[a-bc-]", "[a-]]", "[!--]", "[-!]", // a - that isn't between two
		"[b-a]", "[a-A]", "[9-0]", "[!b-a]", "[ab-a]", "[a-bd-c]", "[a-!]", "[\xff-\x00]", "[\x80-\x7f]", "[b-a]a", "a[b-a]", // a first one above the second one
	} {
		checks(t, pattern, api.ErrForm)
		checks(t, "*"+pattern, api.ErrForm)
		checks(t, "\\]"+pattern, api.ErrForm)
	}
}

// TestLong: P15.1, a pattern has at most 32 bytes, whatever they are; that is told ahead of all else.
func TestLong(t *testing.T) {
	for _, piece := range []string{"a", "*", "?", "]", "\\a", "[a]", "[!a-b]", "a[b]*", "\xff"} {
		for size := len(piece); size <= 40; size += len(piece) {
			want := api.OK
			if size > 32 {
				want = api.ErrLong
			}
			checks(t, strings.Repeat(piece, size/len(piece)), want)
		}
	}
	for _, end := range []string{"\\", "[", "[]", "[b-a]", "[a-]"} {
		checks(t, strings.Repeat("a", 32-len(end))+end, api.ErrForm)
		checks(t, strings.Repeat("a", 33-len(end))+end, api.ErrLong)
		checks(t, end+strings.Repeat("a", 100000), api.ErrLong)
	}
	checks(t, "["+strings.Repeat("a", 30)+"]", api.OK)
	checks(t, "["+strings.Repeat("a", 31)+"]", api.ErrLong)
	matches(t, strings.Repeat("a", 33), strings.Repeat("a", 33), false)
}

// TestMatch: P15.2, texts that are a pattern's, and texts that aren't, each whole.
func TestMatch(t *testing.T) {
	for _, row := range []struct {
		pattern  string
		has, not []string
	}{
		{"", []string{""}, []string{"a", " ", "\x00"}},
		{"a", []string{"a"}, []string{"", "b", "A", "aa", "ab", "ba"}},
		{"ab", []string{"ab"}, []string{"", "a", "b", "ba", "abb", "aab", "abc"}},
		{"?", []string{"a", "?", "*", "\x00", "\n", "\xff"}, []string{"", "aa", "ä"}},
		{"??", []string{"ab", "ä"}, []string{"", "a", "abc"}},
		{"*", []string{"", "a", "*", "abc", "a/b", "\n\x00\xff"}, nil},
		{"**", []string{"", "a", "ab"}, nil},
		{"*?", []string{"a", "ab", "abc"}, []string{""}},
		{"?*?", []string{"ab", "abc"}, []string{"", "a"}},
		{"a*", []string{"a", "aa", "ab", "abc"}, []string{"", "b", "ba"}},
		{"*a", []string{"a", "aa", "ba", "bca", "aba"}, []string{"", "b", "ab", "aab"}},
		{"*a*", []string{"a", "ba", "ab", "bab"}, []string{"", "b", "bcb"}},
		{"a*b", []string{"ab", "aab", "abb", "axb", "abab"}, []string{"", "a", "b", "ba", "aba", "xab"}},
		{"a*b*a", []string{"aba", "abba", "axbxa", "ababa", "aabaa"}, []string{"", "aa", "ab", "abab", "ba", "axa"}},
		{"*ab*ab", []string{"abab", "abxab", "ababab", "aabab", "xabxabxab"}, []string{"ab", "aba", "abaab ", "abb", "aab", "ababa"}},
		{"a\\*", []string{"a*"}, []string{"a", "ab", "a\\", "a\\*"}},
		{"\\?\\[\\]\\\\\\a", []string{"?[]\\a"}, []string{"\\?\\[\\]\\\\\\a", "a[]\\a"}},
		{"]", []string{"]"}, []string{"", "a"}},
		{"a-c", []string{"a-c"}, []string{"b", "abc"}},
		{"!a", []string{"!a"}, []string{"b", "a"}},
		{"[a]", []string{"a"}, []string{"", "b", "[a]", "aa"}},
		{"[ac]", []string{"a", "c"}, []string{"", "b", "ac"}},
		{"[a-c]", []string{"a", "b", "c"}, []string{"", "-", "`", "d", "A"}},
		{"[a-ce]", []string{"a", "b", "c", "e"}, []string{"d", "f", "-"}},
		{"[ea-c]", []string{"a", "b", "c", "e"}, []string{"d", "f", "-"}},
		{"[a-a]", []string{"a"}, []string{"-", "b"}},
		{"[!a-c]", []string{"d", "-", "!", "\x00", "\xff"}, []string{"", "a", "b", "c", "dd"}},
		{"[!!]", []string{"a"}, []string{"!", ""}},
		{"[a!]", []string{"a", "!"}, []string{"b"}},
		{"[!a!]", []string{"b"}, []string{"a", "!"}},
		{"[!!-a]", []string{"b", " "}, []string{"!", "A", "a"}},
		{"[\\]", []string{"\\"}, []string{"]", "[\\]"}},
		{"[\\]]", []string{"\\]"}, []string{"]", "\\"}},
		{"[\\n]", []string{"\\", "n"}, []string{"\n"}},
		{"[*?[]", []string{"*", "?", "["}, []string{"a", "]"}},
		{"[a]]", []string{"a]"}, []string{"a", "]"}},
		{"[!\x00-\xff]", nil, []string{"", "a", "\x00", "\xff"}},
		{"[\x80-\xff]", []string{"\x80", "\xff"}, []string{"\x7f", "ä"}},
		{"*[ab]c*", []string{"ac", "xbcx", "acc", "aac"}, []string{"c", "xc", "ab", ""}},
		{"host/*", []string{"host/", "host/blue", "host/a/b"}, []string{"host", "ghost/blue"}},
	} {
		checks(t, row.pattern, api.OK)
		for _, text := range row.has {
			matches(t, row.pattern, text, true)
		}
		for _, text := range row.not {
			matches(t, row.pattern, text, false)
		}
	}
}

// TestEachByte: P15.1 to P15.3, each byte by itself, behind a backslash, in sets, and as an end of a range, against each byte.
func TestEachByte(t *testing.T) {
	for b := range 256 {
		c := string([]byte{byte(b)})
		byItself, item := !strings.Contains("*?[\\", c), !strings.Contains("]-", c)
		for d := range 256 {
			text := string([]byte{byte(d)})
			matches(t, "\\"+c, text, b == d)
			if byItself {
				matches(t, c, text, b == d)
			}
			if !item {
				continue
			}
			matches(t, "[a"+c+"]", text, d == 'a' || b == d)
			matches(t, "[!"+c+"]", text, b != d)
			matches(t, "[\x00-"+c+"]", text, d <= b)
			matches(t, "[!\x00-"+c+"]", text, d > b)
			if b != '!' {
				matches(t, "["+c+"-\xff]", text, d >= b)
			}
			matches(t, "[!"+c+"-\xff]", text, d < b)
		}
		if text, plain := glob.Plain("\\" + c); text != c || !plain {
			t.Errorf("%q behind a backslash: %q, %v", c, text, plain)
		}
		if text, plain := glob.Plain(c); plain != byItself || plain && text != c {
			t.Errorf("%q: %q, %v", c, text, plain)
		}
	}
}

// TestEachRange: P15.1, each range whose bytes may be items is right just if the first one isn't above the second one.
func TestEachRange(t *testing.T) {
	for first := range 256 {
		for last := range 256 {
			want := api.OK
			if first > last || strings.ContainsAny("]-", string(rune(first))) || strings.ContainsAny("]-", string(rune(last))) {
				want = api.ErrForm
			}
			if e := glob.Check(string([]byte{'[', 'x', byte(first), '-', byte(last), ']'})); e != want && first != ']' {
				t.Errorf("from %d to %d: %v", first, last, e)
			}
		}
	}
}

// TestPlain: P15.3, patterns that stand for one text, and others, though they have just one text, too.
func TestPlain(t *testing.T) {
	for pattern, want := range map[string]string{
		"": "", "a": "a", "ab": "ab", "a\\b": "ab", "\\a\\b": "ab", "]": "]", "a-b!": "a-b!", "\\*": "*", "\\?\\[a]": "?[a]", "\\\\": "\\", "\\\\\\\\": "\\\\",
		"\\]\\-": "]-", "\x00\xff\n": "\x00\xff\n", "ä": "ä", strings.Repeat("a", 32): strings.Repeat("a", 32), strings.Repeat("\\*", 16): strings.Repeat("*", 16),
	} {
		if text, plain := glob.Plain(pattern); text != want || !plain {
			t.Errorf("%q: %q, %v", pattern, text, plain)
		}
		matches(t, pattern, want, true)
	}
	for _, pattern := range []string{
		"*", "?", "[a]", "[!a]", "a*", "*a", "a?b", "ab[c]", "\\**", "\\\\*", "[a]b", "[!\x00-\xff]", "a]?", strings.Repeat("a", 31) + "*",
		"\\", "a\\", "[", "[a", "[]", "a[", "[b-a]", strings.Repeat("a", 33), strings.Repeat("a", 100000),
	} {
		if text, plain := glob.Plain(pattern); text != "" || plain {
			t.Errorf("%q: %q, %v", pattern, text, plain)
		}
	}
}

// TestEnds: P15.4, Match of long texts, also by many *, ends in a while in which steps without such a bound wouldn't.
func TestEnds(t *testing.T) {
	const long = 1 << 20
	a, ended := strings.Repeat("a", long), make(chan bool)
	go func() {
		defer close(ended)
		for _, row := range []struct {
			pattern, end string
			want         bool
		}{
			{strings.Repeat("*a", 15) + "*b", "", false},
			{strings.Repeat("*a", 15) + "*b", "b", true},
			{strings.Repeat("*a", 16), "", true},
			{strings.Repeat("a*", 15) + "b", "", false},
			{strings.Repeat("*?", 15) + "*b", "", false},
			{strings.Repeat("*", 31) + "b", "", false},
			{strings.Repeat("*", 31) + "b", "b", true},
			{"*" + strings.Repeat("a", 30) + "b", "", false},
			{"*" + strings.Repeat("?", 30) + "b", "b", true},
			{strings.Repeat("*[!b]", 6) + "*b", "", false},
			{"*[aaaaaaaaaaaaaaaaaaaaaaaaaaaa]b", "", false},
			{strings.Repeat("*aa", 10) + "*b", "c", false},
			{strings.Repeat("*", 32), "", true},
		} {
			matches(t, row.pattern, a+row.end, row.want)
		}
	}()
	select {
	case <-ended:
	case <-time.After(time.Minute): // thirteen times a few tens of milliseconds are enough
		t.Fatal("it goes on")
	}
}

// TestNothingIsKept: rule 5, patterns and texts aren't written to, and Plain's texts share memory neither with a pattern nor with each other.
func TestNothingIsKept(t *testing.T) {
	for _, pattern := range []string{"ab", "a", "\\a\\b", "*", "[a-b]c", "[", strings.Repeat("a", 32)} {
		b, all := probe.Roomy(pattern)
		handed := unsafe.String(unsafe.SliceData(b), len(b))
		glob.Check(handed)
		glob.Match(handed, handed)
		text, plain := glob.Plain(handed)
		again, _ := glob.Plain(handed)
		if string(all) != pattern+probe.Spare {
			t.Errorf("%q was written to: %q", pattern, all)
		}
		want := strings.Clone(text)
		probe.Spoil(b)
		if text != want {
			t.Errorf("%q is kept: %q", pattern, text)
		}
		if plain {
			spoilText(text)
		}
		if again != want {
			t.Errorf("%q: answers share memory: %q", pattern, again)
		}
	}
}

// TestAnyArguments: P1 and P2, each call ends, without a panic, and answers the same in a second run.
func TestAnyArguments(t *testing.T) {
	answers := func(s string) []any {
		half := len(s) / 2
		text, plain := glob.Plain(s)
		return []any{glob.Check(s), text, plain, glob.Match(s, s), glob.Match(s[:half], s[half:]), glob.Match(s, "a-]"), glob.Match(s, "")}
	}
	if s, parts := probe.Parting(probe.Texts("*?[]!-\\a\xff", 5), answers, reflect.DeepEqual); parts {
		t.Errorf("%q: two runs part", s)
	}
	for _, s := range []string{strings.Repeat("[", 100000), strings.Repeat("\\", 100001), strings.Repeat("*", 100000), "[" + strings.Repeat("a-b", 100000)} {
		checks(t, s, api.ErrLong)
		matches(t, "*", s, true)
	}
}

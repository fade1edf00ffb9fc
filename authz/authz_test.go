package authz_test

import (
	"reflect"
	"slices"
	"strconv"
	"strings"
	"testing"
	"unsafe"

	"gangway/api"
	"gangway/authz"
	"gangway/probe"
)

// rules gives those of the realm LAND that are told.
func rules(t *testing.T, lines ...string) *authz.Rules {
	t.Helper()
	return rulesOf(t, "LAND", lines...)
}

// rulesOf gives the rules of a realm that are told.
func rulesOf(t *testing.T, realm string, lines ...string) *authz.Rules {
	t.Helper()
	r, e := authz.Parse(strings.Join(lines, "\n"), realm)
	if e != api.OK || r == nil {
		t.Fatalf("%q: %v", lines, e)
	}
	return r
}

// refuses looks whether Parse answers this error, and no rules.
func refuses(t *testing.T, text string, want api.Errno) {
	t.Helper()
	if r, e := authz.Parse(text, "LAND"); e != want || r != nil {
		t.Errorf("%.100q: %v, not %v", text, e, want)
	}
}

// maps looks whether Map gives this account.
func maps(t *testing.T, r *authz.Rules, principal, want string) {
	t.Helper()
	if account, err := r.Map(principal); err != nil || account != want {
		t.Errorf("%q: %q, %v, not %q", principal, account, err, want)
	}
}

// mapsNot looks whether Map answers this error.
func mapsNot(t *testing.T, r *authz.Rules, principal string, want api.Errno) {
	t.Helper()
	if account, err := r.Map(principal); account != "" || !probe.IsFault(err, "map", want) {
		t.Errorf("%.100q: %q, %v, not %v", principal, account, err, want)
	}
}

// allows looks whether Allowed answers nothing, or else ErrDenied.
func allows(t *testing.T, r *authz.Rules, principal, account string, login []string, want bool) {
	t.Helper()
	err := r.Allowed(principal, account, login)
	if want && err != nil || !want && !probe.IsFault(err, "authz", api.ErrDenied) {
		t.Errorf("%.100q as %.100q, of %.100q: %v", principal, account, login, err)
	}
}

// TestExample: the chapter's example.
func TestExample(t *testing.T) {
	r := rules(t, "RULE 2 host/* host/ -", "DEFAULT")
	maps(t, r, "host/blue@LAND", "blue")
	maps(t, r, "ann@LAND", "ann")
	mapsNot(t, r, "ann@SEA", api.ErrNoMap)
}

// TestAccount: P16.4, texts that are accounts, and others.
func TestAccount(t *testing.T) {
	for _, s := range []string{"a", "z", "ann", "a0", "z9", "a1b2c3d4", "abcdefgh", "a0000000", "zzzzzzzz"} {
		if !authz.Account(s) {
			t.Errorf("%q is none", s)
		}
	}
	for _, s := range []string{
		"", "0", "9a", "0ann", "A", "Ann", "anN", "a-b", "a_b", "a.b", "a+b", "a b", " a", "a ", "a\n", "a\x00", "a/b", "a@b", "ä", "aä", "\xff", "a\xff",
		"abcdefghi", "a12345678", "abcdefgh ", strings.Repeat("a", 100000),
	} {
		if authz.Account(s) {
			t.Errorf("%.40q is one", s)
		}
	}
}

// TestAccountBytes: P16.4, each byte at each place.
func TestAccountBytes(t *testing.T) {
	for b := range 256 {
		letter, digit := 'a' <= b && b <= 'z', '0' <= b && b <= '9'
		for size := 1; size <= 9; size++ {
			for at := range size {
				s := []byte(strings.Repeat("m", size))
				s[at] = byte(b)
				want := size <= 8 && (letter || digit && at > 0)
				if got := authz.Account(string(s)); got != want {
					t.Errorf("%q: %v", s, got)
				}
			}
		}
	}
}

// rightLines gives lines that are right.
func rightLines() []string {
	sixteen := probe.Sixteen
	return []string{
		"DEFAULT", "RULE 1 * - -", "RULE 2 host/* host/ -", "RULE 3 a/b/c a/b/c abc", "RULE 1 a b c", "RULE 1 [a-z]? \\ ]", "RULE 1 - - -", "RULE 1 \\\\ -- -a",
		"RULE 2 */* " + sixteen + " " + sixteen, "RULE 1 " + strings.Repeat("*", 32) + " " + sixteen + " " + sixteen, "RULE 1 DEFAULT RULE 1",
		"RULE 1 \xff \x00 \t", "RULE 1 [!\\] [ *", "RULE 1 * - \r", "RULE 3 \x01-\x02 ä é",
	}
}

// wrongLines gives lines that have at most 80 bytes and aren't right.
func wrongLines() []string {
	all := []string{
		" ", "  ", "\r", "\t", "\x00", "x", "default", "DEFAUL", "DEFAULTS", "Default", "DEFAULT ", " DEFAULT", "DEFAULT DEFAULT", "DEFAULT -", "DEFAULT\r", "DEFAULT\x00", "\tDEFAULT",
		"RULE", "RULE ", "RULE 1", "RULE 1 ", "RULE 1 *", "RULE 1 * ", "RULE 1 * a", "RULE 1 * a ", "RULE 1 * a b ", "RULE 1 * a b c", "RULE 1 * a b  ", "RULE    ",
		" RULE 1 * a b", "RULE  1 * a b", "RULE 1  * a b", "RULE 1 *  a b", "RULE 1 * a  b", "RULE 1  a b", "RULE  * a b", "RULE 1 *  b", "RULE 1\t* a b", "RULE\t1 * a b",
		"rule 1 * a b", "Rule 1 * a b", "RULES 1 * a b", "RUL 1 * a b", "RULE1 * a b", "DEFAULT 1 * a b",
		"RULE 0 * a b", "RULE 4 * a b", "RULE 01 * a b", "RULE 1. * a b", "RULE +1 * a b", "RULE -1 * a b", "RULE 12 * a b", "RULE 11 * a b", "RULE 10 * a b", "RULE 9 * a b", "RULE a * a b",
		"RULE - * a b", "RULE \xb9 * a b", "RULE 1\r * a b",
		"RULE 1 [ a b", "RULE 1 [] a b", "RULE 1 [!] a b", "RULE 1 [a a b", "RULE 1 [b-a] a b", "RULE 1 a\\ a b", "RULE 1 [a-] a b", "RULE 1 [-] a b", "RULE 1 [ ] a b", "RULE 1 \\  a b",
		"RULE 1 " + strings.Repeat("a", 33) + " a b", "RULE 1 * " + probe.Sixteen + "q a", "RULE 1 * a " + probe.Sixteen + "q", "RULE 1 * - " + strings.Repeat("-", 17),
		strings.Repeat("x", 80), strings.Repeat(" ", 80), "RULE 1 " + strings.Repeat("*", 32) + " " + probe.Sixteen + " " + probe.Sixteen + "1234567",
		"#", "# RULE 1 * a b", "RULE 1 * a b #",
	}
	for _, line := range rightLines() {
		all = append(all, " "+line, line+" ", line+" x")
	}
	return all
}

// TestParseRight: P16.1, right lines, with a line feed behind the last one or not, and empty ones between.
func TestParseRight(t *testing.T) {
	for _, line := range append(rightLines(), "") {
		for _, text := range []string{line, line + "\n", "\n" + line, "\n\n" + line + "\n\n", line + "\n" + line, line + "\n\nDEFAULT\n"} {
			if r, e := authz.Parse(text, "LAND"); e != api.OK || r == nil {
				t.Errorf("%q: %v", text, e)
			}
		}
	}
	if r, e := authz.Parse(strings.Repeat("\n", 100000), "LAND"); e != api.OK || r == nil {
		t.Errorf("empty lines alone: %v", e)
	}
	for _, realm := range []string{"", "LAND", "no realm", "\xff", strings.Repeat("R", 100000)} {
		if r, e := authz.Parse("DEFAULT", realm); e != api.OK || r == nil {
			t.Errorf("%.40q: %v", realm, e)
		}
	}
}

// TestParseWrong: P16.1, lines that aren't right, alone and between others.
func TestParseWrong(t *testing.T) {
	for _, line := range wrongLines() {
		refuses(t, line, api.ErrForm)
		refuses(t, line+"\n", api.ErrForm)
		refuses(t, "\n\n"+line, api.ErrForm)
		refuses(t, "DEFAULT\n"+line+"\nDEFAULT", api.ErrForm)
		refuses(t, strings.Repeat("DEFAULT\n", 15)+line, api.ErrForm)
	}
}

// TestParseLongLines: P16.1, a line has at most 80 bytes, the line feed not among them; that is told ahead of its form.
func TestParseLongLines(t *testing.T) {
	for _, begin := range []string{"", "x", "DEFAULT", "RULE 1 * a ", "RULE 1 ", "  "} {
		for _, size := range []int{79, 80, 81, 82, 1000, 100000} {
			line, want := begin+strings.Repeat("*", size-len(begin)), api.ErrForm
			if size > 80 {
				want = api.ErrLong
			}
			refuses(t, line, want)
			refuses(t, line+"\n", want)
			refuses(t, "DEFAULT\n\n"+line+"\nDEFAULT", want)
		}
	}
}

// TestParseManyLines: P16.1, there are at most 16 lines; empty ones don't count; the 17th is ErrLong, whatever it is.
func TestParseManyLines(t *testing.T) {
	for _, line := range []string{"DEFAULT\n", "\nDEFAULT\n", "DEFAULT\n\n\n", "RULE 1 * a b\n", "RULE 2 * a b\n\n"} {
		for n := range 20 {
			text := strings.Repeat(line, n)
			if n > 16 {
				refuses(t, text, api.ErrLong)
				refuses(t, strings.TrimRight(text, "\n"), api.ErrLong)
			} else if r, e := authz.Parse(text, "LAND"); e != api.OK || r == nil {
				t.Errorf("%d of %q: %v", n, line, e)
			}
		}
	}
	sixteen := strings.Repeat("DEFAULT\n", 16)
	for _, line := range wrongLines() {
		refuses(t, sixteen+line, api.ErrLong)
		refuses(t, sixteen+"\n\n"+line+"\n", api.ErrLong)
	}
	if r, e := authz.Parse(sixteen+strings.Repeat("\n", 1000), "LAND"); e != api.OK || r == nil {
		t.Error(e)
	}
}

// TestParseOrder: P16.1, the first line that isn't right tells the error.
func TestParseOrder(t *testing.T) {
	long := strings.Repeat("x", 81)
	refuses(t, "x\n"+long, api.ErrForm)
	refuses(t, long+"\nx", api.ErrLong)
	refuses(t, "DEFAULT\nx\n"+strings.Repeat("DEFAULT\n", 20), api.ErrForm)
	refuses(t, strings.Repeat("DEFAULT\n", 16)+"x\n", api.ErrLong)
	refuses(t, strings.Repeat("DEFAULT\n", 17)+"x\n", api.ErrLong)
	refuses(t, strings.Repeat("DEFAULT\n", 15)+"x\nDEFAULT", api.ErrForm)
	refuses(t, strings.Repeat("x\n", 17), api.ErrForm)
}

// TestDefault: P16.2, DEFAULT gives names of one part, of this realm, if it is an account.
func TestDefault(t *testing.T) {
	r := rules(t, "DEFAULT")
	for _, account := range []string{"a", "ann", "bob9", "abcdefgh"} {
		maps(t, r, account+"@LAND", account)
	}
	for _, principal := range []string{
		"ann@SEA", "ann@LANDS", "ann@LAN", "ann@land", "ann/x@LAND", "x/ann@LAND", "a/b/c@LAND", "Ann@LAND", "abcdefghi@LAND", "9a@LAND", "a-b@LAND", "a.b@LAND", "_@LAND", "host/blue@LAND",
	} {
		mapsNot(t, r, principal, api.ErrNoMap)
	}
	for _, realm := range []string{"", "@", "a@LAND", "LAND ", "SEA"} {
		mapsNot(t, rulesOf(t, realm, "DEFAULT", "RULE 1 * - -"), "ann@LAND", api.ErrNoMap)
	}
	maps(t, rulesOf(t, "SEA", "DEFAULT"), "ann@SEA", "ann")
}

// TestNoName: P16.2, what isn't the text of a right name is ErrName, whatever the rules are.
func TestNoName(t *testing.T) {
	for _, r := range []*authz.Rules{rules(t), rules(t, "DEFAULT"), rules(t, "RULE 1 * - -", "RULE 2 * / -"), rulesOf(t, "", "DEFAULT")} {
		for _, principal := range append(probe.NotNames(), "ann@LAND\n", " ann@LAND", "ann@@LAND", "DEFAULT", "*@LAND") {
			mapsNot(t, r, principal, api.ErrName)
		}
	}
}

// TestRuleApplies: P16.2, RULE applies by the number of parts, the realm and the pattern, of all parts with / between.
func TestRuleApplies(t *testing.T) {
	for _, row := range []struct {
		rule     string
		has, not []string
	}{
		{"RULE 1 ann ann yes", []string{"ann"}, []string{"bob", "ann/x", "xann", "annx", "Ann"}},
		{"RULE 1 a* a -", []string{"ab", "acd"}, []string{"ba", "ab/c", "host/ab"}},
		{"RULE 2 host/* host/ -", []string{"host/blue", "host/b"}, []string{"host", "hosts/blue", "ghost/blue", "host/blue/x", "host"}},
		{"RULE 2 *t/?? t/ -", []string{"t/ab", "xt/ab"}, []string{"t/a", "t/abc", "t/a/b"}},
		{"RULE 3 */*/* / -", nil, []string{"ann", "a/b"}},
		{"RULE 3 a/b/c a/b/c abc", []string{"a/b/c"}, []string{"a/b", "a/b/d", "abc"}},
		{"RULE 2 a[/]b / -", []string{"a/b"}, []string{"axb", "a/c"}},
		{"RULE 2 a?b / -", []string{"a/b"}, []string{"ab", "axb", "a/x/b"}},
		{"RULE 2 a[!x]b / -", []string{"a/b"}, []string{"axb"}},
		{"RULE 1 * - -", []string{"ann"}, []string{"a/b", "a/b/c"}},
	} {
		r := rules(t, row.rule)
		for _, parts := range row.has {
			if account, err := r.Map(parts + "@LAND"); err != nil || !authz.Account(account) {
				t.Errorf("%q, %q: %q, %v", row.rule, parts, account, err)
			}
			mapsNot(t, r, parts+"@SEA", api.ErrNoMap)
			mapsNot(t, r, parts+"@LANDS", api.ErrNoMap)
		}
		for _, parts := range row.not {
			mapsNot(t, r, parts+"@LAND", api.ErrNoMap)
		}
	}
}

// TestReplace: P16.2, the first place of what is replaced is replaced, and no other one.
func TestReplace(t *testing.T) {
	for _, row := range [][3]string{
		{"RULE 1 * a b", "aaa", "baa"}, {"RULE 1 * a b", "xaya", "xbya"}, {"RULE 1 * aa b", "aaa", "ba"}, {"RULE 1 * aa b", "xaaaa", "xbaa"},
		{"RULE 1 * x b", "aaa", "aaa"}, {"RULE 1 * ab ba", "aabb", "abab"}, {"RULE 1 * a -", "banana", "bnana"}, {"RULE 1 * na -", "banana", "bana"},
		{"RULE 1 * - x", "ann", "ann"}, {"RULE 1 * - -", "ann", "ann"}, {"RULE 1 * ann bob", "ann", "bob"}, {"RULE 1 * n mmm", "an", "ammm"},
		{"RULE 1 * * x", "ann", "ann"}, {"RULE 1 * ? x", "ann", "ann"}, {"RULE 1 * [an] x", "ann", "ann"}, // no pattern
		{"RULE 1 * A a", "Ann", "ann"}, {"RULE 1 * a A", "ban", ""}, {"RULE 1 * -- a", "--b", "ab"}, {"RULE 1 * -a a", "-ab", "ab"}, {"RULE 1 * a --", "ab", ""},
		{"RULE 1 * abcdefghijklmnop x", "abcdefghijklmnop", "x"}, {"RULE 1 * z abcdefghijklmnop", "z", ""}, {"RULE 1 * z abcdefgh", "z", "abcdefgh"}, {"RULE 1 * z abcdefgh", "za", ""},
		{"RULE 2 * / -", "a/b", "ab"}, {"RULE 2 * / x", "a/b", "axb"}, {"RULE 2 * b/c x", "ab/cd", "axd"}, {"RULE 2 * a/b c", "a/b", "c"}, {"RULE 2 * - -", "a/b", ""},
		{"RULE 3 * / -", "a/b/c", ""}, {"RULE 3 * /b/ -", "a/b/c", "ac"}, {"RULE 3 * a/b/c abc", "a/b/c", "abc"}, {"RULE 3 * /b/c 1", "a/b/c", "a1"},
		{"RULE 1 * ann -", "ann", ""}, {"RULE 1 * 9 -", "9ann", "ann"}, {"RULE 1 * a 9", "ann", ""}, {"RULE 1 * @LAND x", "ann", "ann"}, {"RULE 1 * . -", "a.b.c", ""}, {"RULE 1 * . -", "a.b", "ab"},
	} {
		r := rules(t, row[0], "RULE 1 * - -", "RULE 1 * b c", "RULE 2 * / -", "RULE 3 * / -", "DEFAULT")
		if row[2] != "" {
			maps(t, r, row[1]+"@LAND", row[2])
		} else {
			mapsNot(t, r, row[1]+"@LAND", api.ErrNoMap)
		}
	}
}

// TestFirstRule: P16.2, the first rule that applies decides, also where what it gives isn't an account.
func TestFirstRule(t *testing.T) {
	first := []string{"RULE 1 ann ann one", "RULE 1 a* - -", "RULE 2 */x /x -", "RULE 1 * b two", "DEFAULT"}
	r := rules(t, first...)
	for parts, account := range map[string]string{"ann": "one", "anna": "anna", "bob": "twoob", "c": "c", "ab/x": "ab"} {
		maps(t, r, parts+"@LAND", account)
	}
	mapsNot(t, r, "ab/y@LAND", api.ErrNoMap)
	mapsNot(t, r, "b123456@LAND", api.ErrNoMap) // two123456 isn't an account, though DEFAULT would give one

	slices.Reverse(first)
	maps(t, rules(t, first...), "ann@LAND", "ann")
	maps(t, rules(t, first...), "b123456@LAND", "b123456")

	r = rules(t, append(slices.Repeat([]string{"RULE 2 * - -", "RULE 1 x - -", ""}, 7), "RULE 1 ann n m", "DEFAULT")...) // the 16th, and the 15th
	maps(t, r, "ann@LAND", "amn")
	maps(t, r, "bob@LAND", "bob")
	mapsNot(t, r, "a/b@LAND", api.ErrNoMap)
	for _, none := range []*authz.Rules{rules(t), rules(t, "", ""), rules(t, "RULE 3 * / -")} {
		mapsNot(t, none, "ann@LAND", api.ErrNoMap)
	}
}

// TestAllowedByMap: P16.3, without lines just who has the account may come as it.
func TestAllowedByMap(t *testing.T) {
	r := rules(t, "RULE 2 host/* host/ -", "RULE 1 bob bob ann", "DEFAULT")
	for _, login := range [][]string{nil, {}, make([]string, 0, 5)} {
		for principal, account := range map[string]string{"ann@LAND": "ann", "bob@LAND": "ann", "cy@LAND": "cy", "host/blue@LAND": "blue"} {
			for _, as := range []string{"ann", "bob", "cy", "blue", "host", "a", "annx", "", "Ann"} {
				allows(t, r, principal, as, login, as == account)
			}
		}
		for _, principal := range append(probe.NotNames(), "ann@SEA", "a/b@LAND", "Ann@LAND", "a/b/c@LAND", "9@LAND") {
			for _, as := range []string{"", "ann", "a", principal} {
				allows(t, r, principal, as, login, false)
			}
		}
	}
}

// TestAllowedByLogin: P16.3, with lines just who is one of them, whole, may come, whatever account it has.
func TestAllowedByLogin(t *testing.T) {
	r := rules(t, "DEFAULT")
	login := []string{"bob@LAND", "", "cy/x@SEA", "not a name", "ann", "host/blue@LAND"}
	for _, principal := range []string{"bob@LAND", "cy/x@SEA", "host/blue@LAND"} {
		for _, account := range []string{"ann", "bob", "a", "zzzzzzzz"} {
			allows(t, r, principal, account, login, true)
			allows(t, r, principal, account, []string{principal}, true)
			allows(t, r, principal, account, []string{"x", principal, "y"}, true)
			allows(t, r, principal, account, []string{principal, "x"}, true)
		}
		for _, account := range []string{"", "A", "9", "ann ", "abcdefghi", "ann@LAND", principal} {
			allows(t, r, principal, account, login, false)
		}
	}
	for _, principal := range []string{"ann@LAND", "bob@LAN", "bob@LANDS", "Bob@LAND", "bob@SEA", "cy/x@LAND", "ob@LAND", "x@SEA", "blue@LAND", "host/blue@LAND\n"} {
		allows(t, r, principal, "ann", login, false)
		allows(t, r, principal, "bob", login, false)
	}
	for _, lines := range [][]string{{""}, {"\n"}, {"ann"}, {"ann@LAND "}, {" ann@LAND"}, {"ann@LAND\n"}, {"#"}, {"*"}, {"*@LAND"}, {"bob@LAND", "bob@LAND"}, slices.Repeat([]string{"x"}, 10000)} {
		allows(t, r, "ann@LAND", "ann", lines, false) // Map would give it
	}
	allows(t, r, "ann@LAND", "ann", append(slices.Repeat([]string{"x"}, 10000), "ann@LAND"), true)
}

// TestAllowedNoNames: P16.3, also of who has no name, with lines, nothing is asked but whether it is one of them; the number is ErrDenied, not Map's.
func TestAllowedNoNames(t *testing.T) {
	r := rules(t, "DEFAULT")
	for _, principal := range probe.NotNames() {
		allows(t, r, principal, "ann", []string{"ann@LAND", "x"}, false)
		allows(t, r, principal, "ann", []string{"ann@LAND", principal}, true)
		allows(t, r, principal, "Ann", []string{principal}, false)
	}
}

// model is a rule as a test has made it: for which texts of parts it is, and what it replaces by what.
type model struct {
	line     string
	parts    int
	fits     func(text string) bool
	what, by string
}

// models gives rules of many kinds.
func models() []model {
	all := []model{{line: "DEFAULT", parts: 1, fits: func(string) bool { return true }}}
	patterns := map[string]func(string) bool{
		"*":     func(string) bool { return true },
		"a*":    func(s string) bool { return strings.HasPrefix(s, "a") },
		"*b":    func(s string) bool { return strings.HasSuffix(s, "b") },
		"a/b":   func(s string) bool { return s == "a/b" },
		"*[/]?": func(s string) bool { return len(s) > 1 && s[len(s)-2] == '/' },
		"???":   func(s string) bool { return len(s) == 3 },
	}
	for _, pattern := range []string{"*", "a*", "*b", "a/b", "*[/]?", "???"} {
		for parts := 1; parts <= 3; parts++ {
			for _, words := range [][2]string{{"", ""}, {"", "a"}, {"a", ""}, {"/", ""}, {"b", "aa"}, {"a/b", "c"}, {"ab", "c"}} {
				line := "RULE " + strconv.Itoa(parts) + " " + pattern + " " + dash(words[0]) + " " + dash(words[1])
				all = append(all, model{line: line, parts: parts, fits: patterns[pattern], what: words[0], by: words[1]})
			}
		}
	}
	return all
}

// dash gives a word for a text.
func dash(s string) string {
	if s == "" {
		return "-"
	}
	return s
}

// account gives what Map must give of a name of LAND with these parts, and of rules; an empty text, if there is none.
func account(list []model, parts []string) string {
	text := strings.Join(parts, "/")
	for _, m := range list {
		if m.parts != len(parts) || !m.fits(text) {
			continue
		}
		if at := strings.Index(text, m.what); m.what != "" && at >= 0 {
			text = text[:at] + m.by + text[at+len(m.what):]
		}
		if strings.Contains(text, "/") || len(text) > 8 || text == "" {
			return ""
		}
		return text // of the letters a, b and c alone
	}
	return ""
}

// TestManyRules: P16.2 and P16.3, lists of rules in no order, of names of all shapes.
func TestManyRules(t *testing.T) {
	all, random := models(), probe.Bytes(16, 20000)
	met := map[bool]int{}
	for len(random) > 20 {
		var list []model
		var lines []string
		for range 1 + random[0]%8 {
			random = random[1:]
			m := all[int(random[0])%len(all)]
			list, lines = append(list, m), append(lines, m.line)
		}
		random = random[1:]
		r := rules(t, lines...)
		for _, text := range []string{"a", "b", "c", "ab", "aab", "abb", "abababab", "babababab", "a/b", "b/a", "ab/ab", "b/b", "a/b/c", "ab/a/b", "c/c/c", "aaa/b/aaa"} {
			want := account(list, strings.Split(text, "/"))
			if met[want != ""]++; want != "" {
				maps(t, r, text+"@LAND", want)
			} else {
				mapsNot(t, r, text+"@LAND", api.ErrNoMap)
			}
			mapsNot(t, r, text+"@SEA", api.ErrNoMap)
			for _, as := range []string{"a", "ab", "abb", "ac", "c"} {
				allows(t, r, text+"@LAND", as, nil, as == want)
			}
		}
		if t.Failed() {
			t.Fatalf("of %q", lines)
		}
	}
	if met[true] < 1000 || met[false] < 1000 {
		t.Errorf("%v", met)
	}
}

// TestApart: rule 6, and P16.2, rules of one text don't hold for another, and answering changes nothing.
func TestApart(t *testing.T) {
	a, b := rules(t, "RULE 1 * a b"), rulesOf(t, "SEA", "DEFAULT")
	for range 3 {
		maps(t, a, "ab@LAND", "bb")
		maps(t, b, "ab@SEA", "ab")
		mapsNot(t, a, "ab@SEA", api.ErrNoMap)
		mapsNot(t, b, "ab@LAND", api.ErrNoMap)
		mapsNot(t, b, "ab", api.ErrName)
		allows(t, a, "ab@LAND", "bb", nil, true)
		allows(t, b, "ab@LAND", "bb", nil, false)
		refuses(t, "RULE", api.ErrForm)
	}
}

// memory gives a text's bytes.
func memory(s string) []byte { return unsafe.Slice(unsafe.StringData(s), len(s)) }

// handed gives a text that may be written over, and all its memory, with spare room.
func handed(s string) (string, []byte) {
	b, all := probe.Roomy(s)
	return unsafe.String(unsafe.SliceData(b), len(b)), all
}

// TestNothingIsKept: P16.4, texts may be written over behind Parse, and aren't written to; lists of lines neither.
func TestNothingIsKept(t *testing.T) {
	const want = "RULE 2 host/* host/ -\n\nRULE 1 ann nn bc\nDEFAULT"
	text, all := handed(want)
	realm, land := handed("LAND")
	r, e := authz.Parse(text, realm)
	if e != api.OK || string(all) != want+probe.Spare || string(land) != "LAND"+probe.Spare {
		t.Fatalf("%v, %q, %q", e, all, land)
	}
	probe.Spoil(all)
	probe.Spoil(land)
	for _, row := range [][2]string{{"host/blue", "blue"}, {"ann", "abc"}, {"bob", "bob"}} {
		principal, all := handed(row[0] + "@LAND")
		account, err := r.Map(principal)
		if string(all) != row[0]+"@LAND"+probe.Spare || err != nil {
			t.Fatalf("%q, %v", all, err)
		}
		as, room := handed(row[1])
		list := []string{principal, as, "spare", "room"}
		allows(t, r, principal, as, list[:2], true)
		allows(t, r, principal, as, nil, true)
		if string(all) != row[0]+"@LAND"+probe.Spare || string(room) != row[1]+probe.Spare || !reflect.DeepEqual(list, []string{row[0] + "@LAND", row[1], "spare", "room"}) {
			t.Errorf("%q, %q, %q", all, room, list)
		}
		probe.Spoil(all)
		probe.Spoil(room)
		if account != row[1] {
			t.Errorf("the principal's text is kept: %q", account)
		}
	}
}

// TestAnswersAreNew: rule 5, an account may be written over, and an error too; neither the rules nor another answer has it.
func TestAnswersAreNew(t *testing.T) {
	r := rules(t, "RULE 1 ann ann cy", "RULE 1 bob - -", "RULE 2 */x /x -", "DEFAULT")
	for _, row := range [][2]string{{"ann", "cy"}, {"bob", "bob"}, {"dan/x", "dan"}, {"eve", "eve"}} {
		one, _ := r.Map(row[0] + "@LAND")
		two, _ := r.Map(row[0] + "@LAND")
		probe.Spoil(memory(one))
		if two != row[1] {
			t.Errorf("answers share memory: %q", two)
		}
		maps(t, r, row[0]+"@LAND", row[1])
	}
	_, err := r.Map("no name")
	*err.(*api.Fault) = api.Fault{At: "x"}
	mapsNot(t, r, "no name", api.ErrName)
	err = r.Allowed("ann@LAND", "bob", nil)
	*err.(*api.Fault) = api.Fault{At: "x"}
	allows(t, r, "ann@LAND", "bob", nil, false)
}

// TestAnyArguments: P1 and P2, each call ends, without a panic, and answers the same in a second run.
func TestAnyArguments(t *testing.T) {
	answers := func(s string) []any {
		out := []any{authz.Account(s)}
		for _, text := range []string{s, "RULE 1 " + s, "RULE 1 " + s + " a b", "RULE 1 * " + s, "RULE 1 * a " + s, "DEFAULT\n" + s} {
			r, e := authz.Parse(text, s)
			if out = append(out, e); e != api.OK {
				continue
			}
			for _, principal := range []string{s, s + "@" + s, "a@a", "a@" + s} {
				account, err := r.Map(principal)
				out = append(out, account, err, r.Allowed(principal, s, nil), r.Allowed(principal, "a", []string{s, "a@a"}), r.Allowed(s, s, []string{s}))
			}
		}
		return out
	}
	if s, parts := probe.Parting(probe.Texts("a- \n@/[", 5), answers, reflect.DeepEqual); parts {
		t.Errorf("%q: two runs part", s)
	}
}

package name_test

import (
	"reflect"
	"strings"
	"testing"
	"unsafe"

	"gangway/api"
	"gangway/name"
	"gangway/probe"
)

const (
	sixteen = "abcdefghijklmnop"
	letters = "ABCDEFGHIJKLMNOPQRSTUVWXYZabcdefghijklmnopqrstuvwxyz0123456789-._+"
)

// of gives the name of a realm and parts.
func of(realm string, parts ...string) api.Name {
	return api.Name{Parts: parts, Realm: realm}
}

// TestRight: P2.1 and P2.2, names that are right, and their texts.
func TestRight(t *testing.T) {
	for text, n := range map[string]api.Name{
		"ann@LAND":        of("LAND", "ann"),
		"host/blue@LAND":  of("LAND", "host", "blue"),
		"a/b/c@R":         of("R", "a", "b", "c"),
		"krbtgt/LAND@x.y": of("x.y", "krbtgt", "LAND"),
		"-/./_@+":         of("+", "-", ".", "_"),
		"../..@.":         of(".", "..", ".."),
		"0@9":             of("9", "0"),
		sixteen + "/" + sixteen + "/" + sixteen + "@" + sixteen: of(sixteen, sixteen, sixteen, sixteen),
	} {
		if e := name.Check(n); e != api.OK {
			t.Errorf("%q: %v", text, e)
		}
		if s, e := name.Text(n); e != api.OK || s != text {
			t.Errorf("%q: %q, %v", text, s, e)
		}
		if p, e := name.Parse(text); e != api.OK || !reflect.DeepEqual(p, n) {
			t.Errorf("%q: %v, %v", text, p, e)
		}
	}
}

// TestWrongNames: P2.1, names that aren't right.
func TestWrongNames(t *testing.T) {
	for i, n := range []api.Name{
		{},
		of("LAND"),
		{Parts: []string{}, Realm: "LAND"},
		of("", "ann"),
		of("LAND", ""),
		of("LAND", "host", ""),
		of("LAND", "", "host"),
		of("R", "a", "", "b"),
		of("R", "a", "b", "c", "d"),
		of("R", make([]string, 300)...),
		of("R", sixteen+"q"),
		of("R", "a", "b", sixteen+"q"),
		of(sixteen+"q", "a"),
		of(strings.Repeat("r", 5000), "a"),
		of("R", strings.Repeat("p", 5000)),
		of("LA ND", "ann"),
		of("R@S", "ann"),
		of("R/S", "ann"),
		of("R", "a/b"),
		of("R", "a@b"),
		of("R", "a", "b", "c\x00"),
		of("R", "\xc3\xa4"),
		of("\xff", "a"),
	} {
		if e := name.Check(n); e != api.ErrName {
			t.Errorf("%d: Check: %v", i, e)
		}
		if s, e := name.Text(n); e != api.ErrName || s != "" {
			t.Errorf("%d: Text: %q, %v", i, s, e)
		}
	}
}

// TestBytes: P2.1 and P2.2, each byte, at each place of a part and of a realm.
func TestBytes(t *testing.T) {
	for b := range 256 {
		c := string([]byte{byte(b)})
		want := api.ErrName
		if strings.Contains(letters, c) {
			want = api.OK
		}
		for _, s := range []string{c, c + "xy", "x" + c + "y", "xy" + c} {
			for _, n := range []api.Name{of("R", s), of(s, "a"), of("R", "a", s), of("R", s, "b", "c"), of("R", "a", "b", s)} {
				if e := name.Check(n); e != want {
					t.Errorf("%q: %v", n, e)
				}
				if _, e := name.Text(n); e != want {
					t.Errorf("%q: Text: %v", n, e)
				}
			}
			if b == '/' || b == '@' {
				continue
			}
			for _, text := range []string{s + "@R", "a@" + s, "a/" + s + "@R", s + "/b/c@R"} {
				if _, e := name.Parse(text); e != want {
					t.Errorf("%q: Parse: %v", text, e)
				}
			}
		}
	}
}

// TestWrongTexts: P2.2, texts that are none of a name.
func TestWrongTexts(t *testing.T) {
	for _, s := range []string{
		"", "@", "/", "/@", "//@R", "a", "a/b", "@R", "a@", "a/@R", "/a@R", "a//b@R", "/@R", "a@b@c", "a@@b", "@a@b", "a@b@", "a@b/c", "a@/",
		"a/b/c/d@R", "a/b/c/@R", "a b@R", " a@R", "a@R ", "a@R\n", "a\\b@R", "a@R\x00", "\xe4@R", "a:b@R", "a*@R",
		sixteen + "q@R", "a@" + sixteen + "q", "a/" + sixteen + "q@R", sixteen + "/" + sixteen + "/" + sixteen + "@" + sixteen + "q",
		strings.Repeat("/", 100000) + "@R", strings.Repeat("a", 100000) + "@R", strings.Repeat("@", 100000), "a@" + strings.Repeat("R", 100000),
	} {
		if n, e := name.Parse(s); e != api.ErrName || n.Parts != nil || n.Realm != "" {
			t.Errorf("%.40q: %v, %v", s, n, e)
		}
	}
}

// namesOfA gives all names of up to three parts whose texts have at most most bytes, and each letter of them an a, by their texts.
func namesOfA(most int) map[string]api.Name {
	names := map[string]api.Name{}
	word := func(n int) string { return strings.Repeat("a", n) }
	add := func(n api.Name) {
		if s, e := name.Text(n); e == api.OK && len(s) <= most {
			names[s] = n
		}
	}
	for r := range most {
		for p := range most {
			add(of(word(r), word(p)))
			for q := range most {
				add(of(word(r), word(p), word(q)))
				for o := range most {
					add(of(word(r), word(p), word(q), word(o)))
				}
			}
		}
	}
	return names
}

// TestParseIsTextBack: P2.2, Parse takes just what Text gives of some name, and gives that name.
func TestParseIsTextBack(t *testing.T) {
	names := namesOfA(8)
	for s := range probe.Texts("a/@*", 8) {
		want, right := names[s]
		n, e := name.Parse(s)
		if right != (e == api.OK) || !right && e != api.ErrName || !reflect.DeepEqual(n, want) {
			t.Fatalf("%q: %v, %v", s, n, e)
		}
		delete(names, s)
	}
	if len(names) > 0 {
		t.Errorf("texts that were not met: %v", names)
	}
}

// TestSame: P2.3, of any names.
func TestSame(t *testing.T) {
	names := []api.Name{
		{}, of("LAND", "ann"), of("land", "ann"), of("LAND", "Ann"), of("", "ann"), of("LAND"), of("LAND", ""), of("LAND", "", ""),
		of("LAND", "host", "blue"), of("LAND", "blue", "host"), of("LAND", "host"), of("LAND", "host/blue"), of("LAND", "hostblue"), of("LAND", "host", "blue", "x"),
		of("R", "a", "b", "c", "d"), of("R", "a", "b", "c", "e"), of("a b", "\xff"),
	}
	for i, a := range names {
		for k, b := range names {
			b.Parts = append([]string{}, b.Parts...)
			if got := name.Same(a, b); got != (i == k) {
				t.Errorf("%v, %v: %v", a, b, got)
			}
		}
	}
	if !name.Same(api.Name{Parts: nil, Realm: "R"}, api.Name{Parts: []string{}, Realm: "R"}) {
		t.Error("no parts and no parts")
	}
}

// TestArgumentsStay: P2.4, nothing that is handed in is changed.
func TestArgumentsStay(t *testing.T) {
	for _, realm := range []string{"R", "", "wrong realm"} {
		room := []string{"host", "blue", "spare", "room"}
		n := api.Name{Parts: room[:2], Realm: realm}
		name.Check(n)
		name.Text(n)
		name.Same(n, n)
		name.Same(n, of(realm, "blue", "host"))
		if !reflect.DeepEqual(room, []string{"host", "blue", "spare", "room"}) {
			t.Errorf("%q: %v", realm, room)
		}
	}
}

// TestAnswersAreNew: P2.4, answers share nothing with what was handed in, nor with each other.
func TestAnswersAreNew(t *testing.T) {
	buffer := []byte("host/blue@LAND")
	text := unsafe.String(&buffer[0], len(buffer))
	n, _ := name.Parse(text)
	m, _ := name.Parse(text)
	for i := range buffer {
		buffer[i] = 'x'
	}
	if want := of("LAND", "host", "blue"); !reflect.DeepEqual(n, want) || !reflect.DeepEqual(m, want) {
		t.Errorf("the text is kept: %v, %v", n, m)
	}
	clear(n.Parts[:cap(n.Parts)])
	if !reflect.DeepEqual(m, of("LAND", "host", "blue")) {
		t.Errorf("lists share memory: %v", m)
	}
	s, _ := name.Text(m)
	clear(m.Parts)
	if s != "host/blue@LAND" {
		t.Errorf("the parts are kept: %q", s)
	}
}

// answers gives all that the calls answer to a text, and to a name made of it.
func answers(s string) []any {
	half := len(s) / 2
	n := api.Name{Parts: strings.Split(s[:half], "a"), Realm: s[half:]}
	parsed, e1 := name.Parse(s)
	text, e2 := name.Text(n)
	return []any{parsed, e1, text, e2, name.Check(n), name.Check(parsed), name.Same(n, parsed), name.Same(n, n)}
}

// TestAnyArguments: P1 and P2, each call ends, without a panic, and answers the same in a second run.
func TestAnyArguments(t *testing.T) {
	const alphabet, most = "aB/@\x00\xff", 5
	if s, parts := probe.Parting(probe.Texts(alphabet, most), answers, reflect.DeepEqual); parts {
		t.Errorf("%q: two runs part", s)
	}
}

package telopt_test

import (
	"regexp"
	"slices"
	"strings"
	"testing"

	"gangway/api"
	"gangway/probe"
	"gangway/telopt"
)

// forms are what a stream may begin with; a byte stands as the rune of its number.
type forms struct {
	data, passed, verb, sub, wrong *regexp.Regexp
}

// newForms gives the forms.
func newForms() forms {
	return forms{
		data:   regexp.MustCompile(`^(?:[^\xff]|\xff\xff|\xff[\xf1-\xf9])+`),
		passed: regexp.MustCompile(`\xff[\xf1-\xf9]`),
		verb:   regexp.MustCompile(`(?s)^\xff([\xfb-\xfe])(.)`),
		sub:    regexp.MustCompile(`(?s)^\xff\xfa(.)((?:[^\xff]|\xff\xff)*)(\xff.|\xff|)`),
		wrong:  regexp.MustCompile(`^\xff[\x00-\xf0]`),
	}
}

// asRunes gives a rune for each byte, and asBytes the way back.
func asRunes(s string) string {
	var b strings.Builder
	for _, c := range []byte(s) {
		b.WriteRune(rune(c))
	}
	return b.String()
}

// asBytes gives a byte for each rune.
func asBytes(s string) string {
	var b strings.Builder
	for _, c := range s {
		b.WriteByte(byte(c))
	}
	return b.String()
}

// single gives the bytes of data in which a 255 stands twice.
func single(s string) string { return strings.ReplaceAll(asBytes(s), "\xff\xff", "\xff") }

// read gives the parts of a stream that came in one piece.
func (f forms) read(stream string) ([]api.Tel, api.Errno) {
	var parts []api.Tel
	rest := asRunes(stream)
	for rest != "" {
		if m := f.data.FindString(rest); m != "" {
			if s := undone(f, m); s != "" {
				parts = append(parts, data(s))
			}
			rest = rest[len(m):]
		} else if m := f.verb.FindStringSubmatch(rest); m != nil {
			parts = append(parts, verb(int(asBytes(m[1])[0]), int(asBytes(m[2])[0])))
			rest = rest[len(m[0]):]
		} else if m := f.sub.FindStringSubmatch(rest); m != nil {
			s := single(m[2])
			switch {
			case len(s) > 3000:
				return nil, api.ErrLong
			case asBytes(m[3]) == "\xff\xf0":
				parts = append(parts, sub(int(asBytes(m[1])[0]), s))
			case len(asBytes(m[3])) == 2:
				return nil, api.ErrForm
			}
			rest = rest[len(m[0]):]
		} else if f.wrong.MatchString(rest) {
			return nil, api.ErrForm
		} else {
			break
		}
	}
	return parts, api.OK
}

// undone gives the bytes of what is data, or is passed over: from the left on, as a 255 means something else behind another.
func undone(f forms, s string) string {
	out := ""
	for piece := range strings.SplitSeq(s, "\u00ff\u00ff") {
		out += "\xff" + asBytes(f.passed.ReplaceAllString(piece, ""))
	}
	return out[1:]
}

// joined gives parts of which those of data that follow each other are put together.
func joined(parts []api.Tel) []api.Tel {
	var out []api.Tel
	for _, p := range parts {
		if n := len(out); n > 0 && p.Kind == api.TelData && out[n-1].Kind == api.TelData {
			out[n-1].Data = slices.Concat(out[n-1].Data, p.Data)
		} else {
			out = append(out, p)
		}
	}
	return out
}

// inPieces gives what a new reader answers of pieces, put together, or its first error; what comes behind that must answer it, too.
func inPieces(t *testing.T, pieces ...string) ([]api.Tel, api.Errno) {
	t.Helper()
	r := telopt.NewReader()
	var all []api.Tel
	first := api.OK
	for _, piece := range pieces {
		parts, e := r.Feed([]byte(piece))
		if first != api.OK && e != first || e != api.OK && len(parts) > 0 {
			t.Errorf("%.200q: %v behind %v", pieces, e, first)
		}
		if e != api.OK {
			first, all = e, nil
		}
		if next := joined(parts); len(next) != len(parts) || slices.ContainsFunc(parts, odd) {
			t.Errorf("%.200q: the parts %v of one piece", piece, tellAll(parts))
		}
		all = append(all, parts...)
	}
	return joined(all), first
}

// odd tells whether a part has a field that isn't of its kind, or has no data though it is data.
func odd(p api.Tel) bool {
	switch p.Kind {
	case api.TelData:
		return p.Verb != 0 || p.Option != 0 || len(p.Data) == 0
	case api.TelVerb:
		return len(p.Data) != 0
	}
	return p.Kind != api.TelSub || p.Verb != 0
}

// agrees asserts that pieces, put together, answer what a twin answers to all of it in one.
func agrees(t *testing.T, f forms, pieces ...string) ([]api.Tel, api.Errno) {
	t.Helper()
	want, wantE := f.read(strings.Join(pieces, ""))
	got, e := inPieces(t, pieces...)
	if e != wantE || !slices.EqualFunc(got, want, samePart) {
		t.Errorf("%.200q: %v, %v, not %v, %v", pieces, tellAll(got), e, tellAll(want), wantE)
	}
	return want, wantE
}

// TestAllShort: P22.2 and P22.3, each short text of bytes that mean something: a twin's answer, in one piece, byte by byte, and in any two pieces.
func TestAllShort(t *testing.T) {
	f := newForms()
	met := map[api.Errno]int{}
	for text := range probe.Texts("\xff\xfa\xf0\xfbA\xf1", 6) {
		_, e := agrees(t, f, text)
		met[e]++
		agrees(t, f, strings.Split(text, "")...)
		for i := range len(text) {
			agrees(t, f, text[:i], text[i:])
		}
	}
	if met[api.OK] < 5000 || met[api.ErrForm] < 5000 {
		t.Errorf("met %v", met)
	}
}

// somePiece gives bytes, most often of a part that is right.
func somePiece(d *probe.Dice) string {
	inside := strings.ReplaceAll(d.Text(d.Roll(12)), "\xff", "\xff\xff")
	one := func() string { return d.Text(1) }
	switch d.Roll(80) {
	case 0:
		return d.Text(d.Roll(4))
	case 1:
		return "\xff" + one()
	case 2:
		return "\xff\xfa" + one() + inside + "\xff" + one()
	case 3, 4:
		return "\xff\xfa" + one() + strings.Repeat("\xff\xff", d.Roll(40)) + strings.Repeat("x", 2950+d.Roll(60)) + "\xff\xf0"
	}
	switch d.Roll(4) {
	case 0:
		return inside
	case 1:
		return "\xff" + string([]byte{byte(251 + d.Roll(4))}) + one()
	case 2:
		return "\xff" + string([]byte{byte(241 + d.Roll(9))})
	}
	return "\xff\xfa" + one() + inside + "\xff\xf0"
}

// TestLongRun: P22.2 and P22.3, many parts in no order, in pieces of many lengths, tell what a twin tells; each kind and each error is met.
func TestLongRun(t *testing.T) {
	f := newForms()
	kinds, errors := map[int]int{}, map[api.Errno]int{}
	for seed := range uint64(2000) {
		d := probe.NewDice(seed)
		text := ""
		for range 1 + d.Roll(60) {
			text += somePiece(d)
		}
		agrees(t, f, text)
		parts, e := agrees(t, f, d.Cut(text)...)
		for _, p := range parts {
			kinds[p.Kind]++
		}
		errors[e]++
	}
	for kind := api.TelData; kind <= api.TelSub; kind++ {
		if kinds[kind] < 1000 {
			t.Errorf("kind %d was met %d times", kind, kinds[kind])
		}
	}
	for _, e := range []api.Errno{api.OK, api.ErrForm, api.ErrLong} {
		if errors[e] < 100 {
			t.Errorf("%v was met %d times", e, errors[e])
		}
	}
}

// someParts gives parts that can be written.
func someParts(d *probe.Dice) []api.Tel {
	var parts []api.Tel
	for range d.Roll(20) {
		text := d.Text(d.Roll(30))
		if d.Roll(4) == 0 {
			text = strings.Repeat("\xff", d.Roll(5)) + text
		}
		switch d.Roll(3) {
		case 0:
			parts = append(parts, data("d"+text))
		case 1:
			parts = append(parts, verb(251+d.Roll(4), d.Roll(256)))
		case 2:
			parts = append(parts, sub(d.Roll(256), text))
		}
	}
	return parts
}

// TestWayBack: P22.1 to P22.3, parts that are written, and read in whatever pieces, are those parts.
func TestWayBack(t *testing.T) {
	for seed := range uint64(1000) {
		d := probe.NewDice(seed)
		parts := someParts(d)
		stream := ""
		for _, p := range parts {
			b, e := telopt.Write(p)
			if e != api.OK {
				t.Fatalf("%s: %v", tell(p), e)
			}
			stream += string(b)
		}
		got, e := inPieces(t, d.Cut(stream)...)
		if e != api.OK || !slices.EqualFunc(got, joined(parts), samePart) {
			t.Errorf("%v, %v, not %v", tellAll(got), e, tellAll(parts))
		}
	}
}

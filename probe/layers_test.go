package probe_test

import (
	"errors"
	"fmt"
	"strings"
	"testing"

	"gangway/api"
	"gangway/name"
	"gangway/probe"
	"gangway/seal"
	"gangway/tlv"
)

// TestNames: those that are right are, the others aren't, and all but the last one fit a field.
func TestNames(t *testing.T) {
	for _, n := range probe.Names() {
		if _, e := name.Parse(n); e != api.OK {
			t.Errorf("%q: %v", n, e)
		}
	}
	list := probe.NotNames()
	for i, n := range list {
		if _, e := name.Parse(n); e != api.ErrName {
			t.Errorf("%.80q: %v", n, e)
		}
		if (len(n) > 65535) != (i == len(list)-1) {
			t.Errorf("%d bytes", len(n))
		}
	}
}

// TestField: fields and numbers are those of layer 1.
func TestField(t *testing.T) {
	for _, n := range []uint64{0, 1, 255, 256, 1 << 40, 1 << 63, 1<<64 - 1} {
		if got := probe.Num(n); got != string(tlv.Num(n)) {
			t.Errorf("%d: %q", n, got)
		}
	}
	for _, value := range []string{"", "hi", strings.Repeat("x", 256), strings.Repeat("y", 65535)} {
		want, e := tlv.Join([]api.Field{{Tag: 255, Value: []byte(value)}})
		if got := probe.Field(255, value); e != api.OK || got != string(want) {
			t.Errorf("%.80q, %v", got, e)
		}
	}
}

// TestSame: messages and tickets that differ in any field aren't one; a nil list is one without elements.
func TestSame(t *testing.T) {
	m := api.Krb{Kind: 1, Client: "a", Server: "b", Nonce: 2, End: 3, Flags: 1, Ticket: []byte("t"), Sealed: []byte("s"), Code: 4}
	for i, other := range []api.Krb{
		{}, {Kind: 2, Client: "a", Server: "b", Nonce: 2, End: 3, Flags: 1, Ticket: []byte("t"), Sealed: []byte("s"), Code: 4},
		{Kind: 1, Client: "x", Server: "b", Nonce: 2, End: 3, Flags: 1, Ticket: []byte("t"), Sealed: []byte("s"), Code: 4},
		{Kind: 1, Client: "a", Server: "x", Nonce: 2, End: 3, Flags: 1, Ticket: []byte("t"), Sealed: []byte("s"), Code: 4},
		{Kind: 1, Client: "a", Server: "b", Nonce: 9, End: 3, Flags: 1, Ticket: []byte("t"), Sealed: []byte("s"), Code: 4},
		{Kind: 1, Client: "a", Server: "b", Nonce: 2, End: 9, Flags: 1, Ticket: []byte("t"), Sealed: []byte("s"), Code: 4},
		{Kind: 1, Client: "a", Server: "b", Nonce: 2, End: 3, Flags: 0, Ticket: []byte("t"), Sealed: []byte("s"), Code: 4},
		{Kind: 1, Client: "a", Server: "b", Nonce: 2, End: 3, Flags: 1, Ticket: []byte("x"), Sealed: []byte("s"), Code: 4},
		{Kind: 1, Client: "a", Server: "b", Nonce: 2, End: 3, Flags: 1, Ticket: []byte("t"), Code: 4},
		{Kind: 1, Client: "a", Server: "b", Nonce: 2, End: 3, Flags: 1, Ticket: []byte("t"), Sealed: []byte("s"), Code: 5},
	} {
		if probe.SameKrb(m, other) || probe.SameKrb(other, m) || !probe.SameKrb(other, other) {
			t.Errorf("%d: %+v", i, other)
		}
	}
	if !probe.SameKrb(api.Krb{Kind: 6, Sealed: []byte{}}, api.Krb{Kind: 6, Ticket: []byte{}}) {
		t.Error("a nil list is another one")
	}
	c := api.Cred{Client: "a", Ticket: []byte("t"), Grant: api.Grant{Server: "b"}}
	for _, other := range []api.Cred{{}, {Client: "x", Ticket: []byte("t"), Grant: c.Grant}, {Client: "a", Ticket: []byte("x"), Grant: c.Grant}, {Client: "a", Ticket: []byte("t")}} {
		if probe.SameCred(c, other) || probe.SameCred(other, c) || !probe.SameCred(other, other) {
			t.Errorf("%+v", other)
		}
	}
	if !probe.SameCred(api.Cred{Ticket: []byte{}}, api.Cred{}) {
		t.Error("a nil list is another one")
	}
}

// TestSameFrames: lists that differ in any frame, in how many there are, or in their order aren't one; a nil list is one without elements.
func TestSameFrames(t *testing.T) {
	a, b := api.Frame{Channel: 1, Body: []byte("a")}, api.Frame{Channel: 2, Body: []byte("b")}
	list := []api.Frame{a, b}
	for _, other := range [][]api.Frame{
		nil, {a}, {b}, {b, a}, {a, b, b}, {a, b, {}}, {a, {Channel: 1, Body: []byte("b")}}, {a, {Channel: 2, Body: []byte("c")}}, {a, {Channel: 2}}, {{}, b},
	} {
		if probe.SameFrames(list, other) || probe.SameFrames(other, list) || !probe.SameFrames(other, other) {
			t.Errorf("%+v", other)
		}
	}
	if !probe.SameFrames(nil, []api.Frame{}) || !probe.SameFrames([]api.Frame{{Body: []byte{}}}, []api.Frame{{}}) {
		t.Error("a nil list is another one")
	}
}

// TestSameNodes: lists that differ in any field of a node, in how many there are, or in their order aren't one; a nil list is one without elements.
func TestSameNodes(t *testing.T) {
	a, b := api.Node{Path: "/a", Owner: "ann", Mode: 61, Data: []byte("x")}, api.Node{Path: "/b", Dir: true}
	list := []api.Node{a, b}
	for _, other := range [][]api.Node{
		nil, {a}, {b}, {b, a}, {a, b, b}, {a, b, {}}, {a, {Path: "/c", Dir: true}}, {a, {Path: "/b"}}, {a, {Path: "/b", Dir: true, Owner: "ann"}},
		{a, {Path: "/b", Dir: true, Mode: 1}}, {a, {Path: "/b", Dir: true, Data: []byte("x")}}, {{Path: "/a", Owner: "ann", Mode: 61, Data: []byte("y")}, b},
		{{Path: "/a", Owner: "ann", Mode: 61}, b},
	} {
		if probe.SameNodes(list, other) || probe.SameNodes(other, list) || !probe.SameNodes(other, other) {
			t.Errorf("%+v", other)
		}
	}
	if !probe.SameNodes(nil, []api.Node{}) || !probe.SameNodes([]api.Node{{Data: []byte{}}}, []api.Node{{}}) {
		t.Error("a nil list is another one")
	}
}

// TestSameOutput: outputs that differ in any field aren't one; a nil list is one without elements.
func TestSameOutput(t *testing.T) {
	a := api.Output{Out: []byte("o"), Err: []byte("e"), Code: 1}
	for _, other := range []api.Output{{}, {Out: []byte("x"), Err: a.Err, Code: 1}, {Out: a.Out, Err: []byte("x"), Code: 1}, {Out: a.Out, Err: a.Err}, {Out: a.Err, Err: a.Out, Code: 1}} {
		if probe.SameOutput(a, other) || probe.SameOutput(other, a) || !probe.SameOutput(other, other) {
			t.Errorf("%+v", other)
		}
	}
	if !probe.SameOutput(api.Output{}, api.Output{Out: []byte{}, Err: []byte{}}) {
		t.Error("a nil list is another one")
	}
}

// TestSameMails: lists that differ in any field of a mail, in how many there are, or in their order aren't one; a nil list is one without elements.
func TestSameMails(t *testing.T) {
	a, b := api.Mail{From: 1, To: 2, Data: []byte("a")}, api.Mail{From: 3, To: 4, Data: []byte("b")}
	list := []api.Mail{a, b}
	for _, other := range [][]api.Mail{nil, {a}, {b, a}, {a, b, b}, {a, {From: 9, To: 4, Data: b.Data}}, {a, {From: 3, To: 9, Data: b.Data}}, {a, {From: 3, To: 4}}, {a, {From: 3, To: 4, Data: a.Data}}} {
		if probe.SameMails(list, other) || probe.SameMails(other, list) || !probe.SameMails(other, other) {
			t.Errorf("%+v", other)
		}
	}
	if !probe.SameMails(nil, []api.Mail{}) || !probe.SameMails([]api.Mail{{Data: []byte{}}}, []api.Mail{{}}) {
		t.Error("a nil list is another one")
	}
}

// TestPlanted: the tree has just these nodes beside the top; what can't stand in a tree isn't planted.
func TestPlanted(t *testing.T) {
	top := api.Node{Path: "/", Dir: true, Owner: "root", Mode: 61}
	if got := probe.Planted().Nodes(); !probe.SameNodes(got, []api.Node{top}) {
		t.Errorf("%+v", got)
	}
	got := probe.Planted(probe.Dir("/d", "ann", 0), probe.File("/d/f", "bob", 7, "data")).Nodes()
	want := []api.Node{top, {Path: "/d", Dir: true, Owner: "ann"}, {Path: "/d/f", Owner: "bob", Mode: 7, Data: []byte("data")}}
	if !probe.SameNodes(got, want) {
		t.Errorf("%+v", got)
	}
	for _, wrong := range []api.Node{probe.Dir("d", "ann", 61), probe.Dir("/d", "ann", 64), probe.File("/d/f", "ann", 61, ""), probe.File("/", "ann", 61, "")} {
		if !panics(func() { probe.Planted(wrong) }) {
			t.Errorf("%+v is planted", wrong)
		}
	}
}

// panics tells whether a function does.
func panics(f func()) (does bool) {
	defer func() { does = recover() != nil }()
	f()
	return false
}

// TestIsFault: just a pointer to a fault of this place and this number is one.
func TestIsFault(t *testing.T) {
	right := &api.Fault{At: "ap", Why: api.ErrSeal}
	if !probe.IsFault(right, "ap", api.ErrSeal) {
		t.Error("the right one")
	}
	for _, err := range []error{
		nil, api.ErrSeal, errors.New("ap"), fmt.Errorf("%w", right), &api.Fault{At: "as", Why: api.ErrSeal}, &api.Fault{At: "ap", Why: api.ErrForm}, &api.Fault{At: "ap"},
		&api.Fault{At: "ap", Why: right}, &api.Fault{At: "ap", Why: fmt.Errorf("%w", api.ErrSeal)},
	} {
		if probe.IsFault(err, "ap", api.ErrSeal) {
			t.Errorf("%#v", err)
		}
	}
}

// TestAlike: sealers that have drawn or sealed something else are told from each other.
func TestAlike(t *testing.T) {
	for _, symbols := range []bool{true, false} {
		s, twin := seal.New(symbols, api.Key{1}), seal.New(symbols, api.Key{1})
		for range 2 {
			if !probe.Alike(s, twin) {
				t.Error("both have done the same")
			}
		}
		s.Fresh()
		if probe.Alike(s, twin) {
			t.Error("one has drawn more")
		}
		twin.Fresh()
		s.Seal(api.Key{1}, 2, nil)
		if probe.Alike(s, twin) {
			t.Error("one has sealed more")
		}
		twin.Seal(api.Key{2}, 2, nil)
		if probe.Alike(s, twin) == symbols {
			t.Error("by symbols they have sealed something else, by sums as much")
		}
	}
}

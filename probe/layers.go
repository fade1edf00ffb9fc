package probe

import (
	"bytes"
	"errors"
	"slices"
	"strings"

	"gangway/api"
	"gangway/seal"
	"gangway/tree"
)

// Sixteen is a part of a name that is as long as it may be, and Longest a name.
const (
	Sixteen = "abcdefghijklmnop"
	Longest = Sixteen + "/" + Sixteen + "/" + Sixteen + "@" + Sixteen
)

// Names gives texts of right names, at the edges of it.
func Names() []string {
	return []string{"ann@LAND", "host/s1@LAND", "krbtgt/LAND@x.y", "a/b/c@R", "a@R", "-/./_@+", Longest}
}

// NotNames gives texts that are none of a right name; the last one is too long for a field, too.
func NotNames() []string {
	return []string{
		"", "ann", "@LAND", "ann@", "ann@LAND@x", "ann@LAND ", "/@LAND", "ann/@LAND", "a/b/c/d@R", "ann\x00@LAND", "ä@LAND",
		Sixteen + "q@R", "a@" + Sixteen + "q", strings.Repeat("a", 70000) + "@R",
	}
}

// Field gives the bytes of a field.
func Field(tag byte, value string) string {
	return string([]byte{tag, byte(len(value) >> 8), byte(len(value))}) + value
}

// Num gives the bytes of a number.
func Num(n uint64) string {
	s := ""
	for ; n > 0; n >>= 8 {
		s = string([]byte{byte(n)}) + s
	}
	return s
}

// SameKrb tells whether two messages are one; nil and empty are.
func SameKrb(a, b api.Krb) bool {
	return a.Kind == b.Kind && a.Client == b.Client && a.Server == b.Server && a.Nonce == b.Nonce && a.End == b.End && a.Flags == b.Flags &&
		bytes.Equal(a.Ticket, b.Ticket) && bytes.Equal(a.Sealed, b.Sealed) && a.Code == b.Code
}

// SameCred tells whether two tickets are one; nil and empty are.
func SameCred(a, b api.Cred) bool {
	return a.Client == b.Client && bytes.Equal(a.Ticket, b.Ticket) && a.Grant == b.Grant
}

// SameFrames tells whether two lists are of the same frames; nil and empty are one.
func SameFrames(a, b []api.Frame) bool {
	return slices.EqualFunc(a, b, func(x, y api.Frame) bool { return x.Channel == y.Channel && bytes.Equal(x.Body, y.Body) })
}

// SameNodes tells whether two lists are of the same nodes; nil and empty are one.
func SameNodes(a, b []api.Node) bool {
	return slices.EqualFunc(a, b, func(x, y api.Node) bool {
		return x.Path == y.Path && x.Dir == y.Dir && x.Owner == y.Owner && x.Mode == y.Mode && bytes.Equal(x.Data, y.Data)
	})
}

// SameOutput tells whether two outputs are one; nil and empty are.
func SameOutput(a, b api.Output) bool {
	return bytes.Equal(a.Out, b.Out) && bytes.Equal(a.Err, b.Err) && a.Code == b.Code
}

// SameMails tells whether two lists are of the same mails; nil and empty are one.
func SameMails(a, b []api.Mail) bool {
	return slices.EqualFunc(a, b, func(x, y api.Mail) bool { return x.From == y.From && x.To == y.To && bytes.Equal(x.Data, y.Data) })
}

// Dir gives a directory.
func Dir(path, owner string, mode int) api.Node {
	return api.Node{Path: path, Dir: true, Owner: owner, Mode: mode}
}

// File gives a file.
func File(path, owner string, mode int, data string) api.Node {
	return api.Node{Path: path, Owner: owner, Mode: mode, Data: []byte(data)}
}

// Planted gives a tree that root has made, node by node: the top, and these. It panics, if that can't be.
func Planted(nodes ...api.Node) *tree.Tree {
	x := tree.New()
	for _, n := range nodes {
		e := api.OK
		if n.Dir {
			e = x.Mkdir(api.Root, n.Path, n.Mode)
		} else {
			e = x.Write(api.Root, n.Path, n.Data, n.Mode)
		}
		if e == api.OK {
			e = x.Give(api.Root, n.Path, n.Owner)
		}
		if e != api.OK {
			panic(n.Path + ": " + e.Error())
		}
	}
	return x
}

// IsFault tells whether an error is just a number at a place, and is found by what looks for either.
func IsFault(err error, at string, why api.Errno) bool {
	var f *api.Fault
	var e api.Errno
	return errors.As(err, &f) && err == error(f) && f.At == at && f.Why == error(why) &&
		errors.Is(err, why) && errors.As(err, &e) && e == why
}

// Alike tells whether two sealers have drawn as many keys, and sealed as much, by symbols the same; it seals by both.
func Alike(s, twin *seal.Sealer) bool {
	one, e1 := s.Seal(api.Key{}, 0, nil)
	two, e2 := twin.Seal(api.Key{}, 0, nil)
	return e1 == api.OK && e2 == api.OK && bytes.Equal(one, two) && s.Drawn() == twin.Drawn() && slices.EqualFunc(s.Terms(), twin.Terms(), sameTerm)
}

// sameTerm tells whether two terms are one.
func sameTerm(a, b api.Term) bool {
	return a.Key == b.Key && a.Usage == b.Usage && bytes.Equal(a.Plain, b.Plain)
}

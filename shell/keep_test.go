package shell_test

import (
	"reflect"
	"slices"
	"strings"
	"testing"

	"gangway/api"
	"gangway/probe"
	"gangway/shell"
	"gangway/tree"
)

// TestNothingIsKept: P20.3, who and line may be written over behind a Run; neither the log nor the tree tell of that.
func TestNothingIsKept(t *testing.T) {
	x := probe.Planted(probe.Dir("/d", "ann", 61))
	s := shell.New(x)
	var want []api.Ran
	for _, line := range []string{"whoami", "echo a b", "put /d/f a  b", "mkdir /d/e", "cat /d/f", "ls /d", "chmod 7 /d/e", "rm /x", "exit 3", "what is", "cat", strings.Repeat("x", 99)} {
		who, mine := strings.Clone("ann"), strings.Clone(line)
		got := s.Run(who, mine)
		kept := api.Output{Out: slices.Clone(got.Out), Err: slices.Clone(got.Err), Code: got.Code}
		spoilText(who)
		spoilText(mine)
		if !probe.SameOutput(got, kept) {
			t.Errorf("%q: what was put out has changed", line)
		}
		want = append(want, api.Ran{Who: "ann", Line: line, Code: got.Code})
		logs(t, s, want...)
	}
	holds(t, x, probe.Dir("/d", "ann", 61), probe.Dir("/d/e", "ann", 7), probe.File("/d/f", "ann", 60, "a b"))
}

// TestNothingIsChanged: P20.3, a line that is handed in stays as it is.
func TestNothingIsChanged(t *testing.T) {
	s := shell.New(tree.New())
	for _, line := range []string{"  echo   a  b ", "put /f a  b", "cat /f", "exit 3"} {
		who, mine := strings.Clone("root"), strings.Clone(line)
		s.Run(who, mine)
		shell.Words(mine)
		if who != "root" || mine != line {
			t.Errorf("%q, %q", who, mine)
		}
	}
}

// TestAnswersAreNew: P20.3, what is answered may be written over, with its spare room and its texts; nothing else has it.
func TestAnswersAreNew(t *testing.T) {
	x := probe.Planted(probe.File("/f", "ann", 63, "some data"))
	s := shell.New(x)
	var want []api.Ran
	for range 3 {
		for _, c := range [][3]string{{"cat /f", "some data"}, {"ls /", "f\n"}, {"whoami", "ann\n"}, {"echo a", "a\n"}, {"echo", "\n"}, {"what", "", "what: 110\n"}, {"cat", "", "cat: 1\n"}, {"rm /x", "", "rm: 110\n"}} {
			line := strings.Clone(c[0])
			one, two := s.Run("ann", line), s.Run("ann", line)
			probe.Spoil(one.Out)
			probe.Spoil(one.Err)
			if string(two.Out) != c[1] || string(two.Err) != c[2] || line != c[0] {
				t.Errorf("%q: %q, %q", line, two.Out, two.Err)
			}
			want = append(want, api.Ran{Who: "ann", Line: c[0], Code: two.Code}, api.Ran{Who: "ann", Line: c[0], Code: two.Code})
		}
		holds(t, x, probe.File("/f", "ann", 63, "some data"))
		one, two := s.Log(), s.Log()
		spoilLog(one)
		if !slices.Equal(two, want) {
			t.Errorf("%+v, not %+v", two, want)
		}
		spoilLog(two)
		logs(t, s, want...)
	}
}

// spoilLog writes over a log, over its texts and over its spare room.
func spoilLog(list []api.Ran) {
	for _, r := range list {
		spoilText(r.Who)
		spoilText(r.Line)
	}
	list = list[:cap(list)]
	for i := range list {
		list[i] = api.Ran{Who: "x", Line: "x", Code: 9}
	}
}

// TestWordsAreNew: P20.3, words share memory neither with the line nor with those of another call.
func TestWordsAreNew(t *testing.T) {
	line := strings.Clone(" one  two three ")
	one, two := shell.Words(line), shell.Words(line)
	for _, word := range one {
		spoilText(word)
	}
	room := one[:cap(one)]
	for i := range room {
		room[i] = "x"
	}
	if line != " one  two three " || !slices.Equal(two, []string{"one", "two", "three"}) {
		t.Errorf("%q: %q", line, two)
	}
	spoilText(line)
	if !slices.Equal(two, []string{"one", "two", "three"}) {
		t.Errorf("%q", two)
	}
}

// TestOneTree: rule 6, two shells over one tree share it, and what is done to it elsewhere, but not their logs.
func TestOneTree(t *testing.T) {
	x := tree.New()
	a, b, c := shell.New(x), shell.New(x), shell.New(tree.New())
	puts(t, a, "root", "put /f a", "")
	puts(t, b, "root", "cat /f", "a")
	refuses(t, c, "root", "cat /f", api.ErrNotFound)
	if e := x.Write("root", "/f", []byte("other"), 0); e != api.OK {
		t.Error(e)
	}
	puts(t, a, "root", "cat /f", "other")
	logs(t, a, api.Ran{Who: "root", Line: "put /f a"}, api.Ran{Who: "root", Line: "cat /f"})
	logs(t, b, api.Ran{Who: "root", Line: "cat /f"})
	logs(t, c, api.Ran{Who: "root", Line: "cat /f", Code: 1})
}

// TestAnyArguments: P1 and P2, each call ends, without a panic, and answers the same in a second run.
func TestAnyArguments(t *testing.T) {
	answers := func(text string) []any {
		x := tree.New()
		s := shell.New(x)
		out := []any{shell.Words(text), s.Log(), s.Run(text, text), s.Run("", text)}
		for _, command := range []string{"echo ", "whoami ", "cat ", "ls ", "put ", "put /", "mkdir ", "mkdir /", "rm /", "chmod ", "chmod 0 ", "exit ", "exit 1", "cat /"} {
			out = append(out, s.Run("root", command+text), s.Run(text, command+text), s.Run("root", text+command))
		}
		return append(out, s.Log(), x.Nodes())
	}
	if s, parts := probe.Parting(probe.Texts(" 1/a\x00\xff", 5), answers, reflect.DeepEqual); parts {
		t.Errorf("%q: two runs part", s)
	}
}

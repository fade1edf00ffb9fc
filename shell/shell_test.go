package shell_test

import (
	"slices"
	"strconv"
	"strings"
	"testing"

	"gangway/api"
	"gangway/probe"
	"gangway/shell"
	"gangway/tree"
)

// runs looks whether a line puts out just this.
func runs(t *testing.T, s *shell.Shell, who, line, out, err string, code int) {
	t.Helper()
	want := api.Output{Out: []byte(out), Err: []byte(err), Code: code}
	if got := s.Run(who, line); !probe.SameOutput(got, want) {
		t.Errorf("%q, %.100q: %q, %q, %d, not %q, %q, %d", who, line, got.Out, got.Err, got.Code, out, err, code)
	}
}

// puts looks whether a line puts out just this, with the code 0.
func puts(t *testing.T, s *shell.Shell, who, line, out string) {
	t.Helper()
	runs(t, s, who, line, out, "", 0)
}

// refuses looks whether a line puts out just that its command met an error of the tree.
func refuses(t *testing.T, s *shell.Shell, who, line string, e api.Errno) {
	t.Helper()
	command, _, _ := strings.Cut(line, " ")
	runs(t, s, who, line, "", command+": "+strconv.Itoa(int(e))+"\n", 1)
}

// misuses looks whether a line puts out just that its command doesn't take its arguments.
func misuses(t *testing.T, s *shell.Shell, line string) {
	t.Helper()
	command, _, _ := strings.Cut(strings.TrimLeft(line, " "), " ")
	runs(t, s, "root", line, "", command+": 1\n", 2)
}

// logs looks whether Log tells just this.
func logs(t *testing.T, s *shell.Shell, want ...api.Ran) {
	t.Helper()
	if got := s.Log(); !slices.Equal(got, want) {
		t.Errorf("%+v, not %+v", got, want)
	}
}

// holds looks whether a tree has just these nodes beside the top.
func holds(t *testing.T, x *tree.Tree, want ...api.Node) {
	t.Helper()
	want = append([]api.Node{probe.Dir("/", "root", 61)}, want...)
	if got := x.Nodes(); !probe.SameNodes(got, want) {
		t.Errorf("%+v, not %+v", got, want)
	}
}

// TestExample: the chapter's example.
func TestExample(t *testing.T) {
	x := tree.New()
	s := shell.New(x)
	puts(t, s, "root", "put /f a  b", "")
	puts(t, s, "root", "cat /f", "a b")
	runs(t, s, "root", "rm /x", "", "rm: 110\n", 1)
	logs(t, s, api.Ran{Who: "root", Line: "put /f a  b"}, api.Ran{Who: "root", Line: "cat /f"}, api.Ran{Who: "root", Line: "rm /x", Code: 1})
	holds(t, x, probe.File("/f", "root", 60, "a b"))
}

// TestNew: P20.1, a new shell has run nothing, and the tree stays as it is.
func TestNew(t *testing.T) {
	x := probe.Planted(probe.File("/f", "ann", 61, "f"))
	logs(t, shell.New(x))
	holds(t, x, probe.File("/f", "ann", 61, "f"))
}

// TestLog: P20.1, each Run is told: who, the line as it came, and the code.
func TestLog(t *testing.T) {
	s := shell.New(tree.New())
	var want []api.Ran
	for _, r := range []api.Ran{
		{Who: "ann", Line: "whoami"}, {Who: "ann", Line: "whoami"}, {Who: "", Line: ""}, {Who: "bob", Line: "   "}, {Who: "ann", Line: "  echo   a "}, {Who: "ann\x00\xff", Line: "\x00 \xff", Code: 127},
		{Who: "ann", Line: "exit 9", Code: 9}, {Who: "ann", Line: "exit 255", Code: 255}, {Who: "ann", Line: "exit", Code: 2}, {Who: "ann", Line: "rm /x", Code: 1},
		{Who: "ann", Line: strings.Repeat("x", 81), Code: 126}, {Who: strings.Repeat("w", 300), Line: strings.Repeat(" ", 5000), Code: 126}, {Who: "root", Line: "mkdir /d"},
	} {
		if got := s.Run(r.Who, r.Line); got.Code != r.Code {
			t.Errorf("%q: %d", r.Line, got.Code)
		}
		want = append(want, r)
		logs(t, s, want...)
		logs(t, s, want...)
	}
	for n := range 3000 {
		line := "exit " + strconv.Itoa(n%256)
		s.Run("ann", line)
		want = append(want, api.Ran{Who: "ann", Line: line, Code: n % 256})
	}
	logs(t, s, want...)
}

// TestLongLine: P20.2, a line of more than 80 bytes isn't run, whatever it has.
func TestLongLine(t *testing.T) {
	x := tree.New()
	s := shell.New(x)
	for _, n := range []int{81, 82, 160, 255, 256, 257, 336, 65616, 1 << 20} {
		for _, begin := range []string{"", "echo a", "put /f a", "mkdir /d", "exit 3", "exit", "what"} {
			for _, c := range []string{" ", "a", "\x00", "\xff"} {
				runs(t, s, "root", begin+strings.Repeat(c, n-len(begin)), "", "", 126)
			}
		}
	}
	holds(t, x)
	for n := 75; n <= 80; n++ {
		puts(t, s, "root", strings.Repeat(" ", n), "")
		puts(t, s, "root", "echo "+strings.Repeat("a", n-5), strings.Repeat("a", n-5)+"\n")
		puts(t, s, "root", strings.Repeat(" ", n-4)+"echo", "\n")
		runs(t, s, "root", strings.Repeat("x", n), "", strings.Repeat("x", n)+": 110\n", 127)
		puts(t, s, "root", "put /f "+strings.Repeat("y", n-7), "")
		puts(t, s, "root", "cat /f", strings.Repeat("y", n-7))
	}
}

// TestNoWords: P20.2, nothing is put out, with the code 0, if there is nothing to run.
func TestNoWords(t *testing.T) {
	x := probe.Planted(probe.File("/f", "ann", 61, "f"))
	s := shell.New(x)
	for n := range 81 {
		puts(t, s, "ann", strings.Repeat(" ", n), "")
	}
	holds(t, x, probe.File("/f", "ann", 61, "f"))
}

// TestUnknown: P20.2, what isn't a command to the letter is none, whatever is behind it.
func TestUnknown(t *testing.T) {
	x := probe.Planted(probe.Dir("/d", "root", 61), probe.File("/f", "root", 61, "f"))
	s := shell.New(x)
	commands := []string{"sh", "x", "0", "110", "/", "/f", "chown", "login", "\x00", "\xff\xfe", "ä", "\t", "echo\t", "echo\ta", "\necho", "echo\n", "whoami\r", "who", "ec", "echo:", "'echo'", "pu", "puts", "exi", "exits"}
	for _, command := range []string{"echo", "whoami", "cat", "ls", "put", "mkdir", "rm", "chmod", "exit"} {
		commands = append(commands, strings.ToUpper(command), strings.ToUpper(command[:1])+command[1:], command+"\x00", command+command, command[1:], command[:len(command)-1], command+"/")
	}
	for _, command := range commands {
		for _, args := range []string{"", " ", " /f", " 1", " 0 /f", " /new a", " a b c d", " /d"} {
			runs(t, s, "root", command+args, "", command+": 110\n", 127)
			runs(t, s, "", "  "+command+args+"  ", "", command+": 110\n", 127)
		}
	}
	holds(t, x, probe.Dir("/d", "root", 61), probe.File("/f", "root", 61, "f"))
}

// TestUsage: P20.2, a command with fewer or more arguments than it takes does nothing.
func TestUsage(t *testing.T) {
	nodes := []api.Node{probe.Dir("/d", "root", 61), probe.Dir("/e", "root", 61), probe.File("/f", "root", 61, "f")}
	x := probe.Planted(nodes...)
	s := shell.New(x)
	for _, line := range []string{
		"whoami a", "whoami a b", "whoami 1", "cat", "cat /f /f", "cat /f /f /f", "ls", "ls / /", "ls / / /", "put", "mkdir", "mkdir /new /new2", "mkdir /new 61", "mkdir 61 /new a",
		"rm", "rm /f /f", "rm /e /f /d", "rm /x /y", "chmod", "chmod 7", "chmod /f", "chmod 7 /f /d", "chmod 7 7 /f", "chmod 7 /f a b", "chmod /f 7", "exit", "exit 1 2", "exit 1 2 3", "exit a", "exit /f",
	} {
		misuses(t, s, line)
		misuses(t, s, "  "+strings.ReplaceAll(line, " ", "   ")+" ")
	}
	holds(t, x, nodes...)
}

// TestOtherBytes: P20.2, only the byte 32 parts words; others that may look like blanks belong to them.
func TestOtherBytes(t *testing.T) {
	x := tree.New()
	s := shell.New(x)
	for _, c := range []string{"\t", "\n", "\r", "\v", "\f", "\x00", "\x85", "\xa0", "\u00a0", "\u2003", "\xff"} {
		puts(t, s, "ann", "echo a"+c+"b  "+c+" ", "a"+c+"b "+c+"\n")
		runs(t, s, "ann", "echo"+c+"a", "", "echo"+c+"a: 110\n", 127)
		runs(t, s, "ann", "whoami "+c, "", "whoami: 1\n", 2)
		refuses(t, s, "root", "mkdir /d"+c, api.ErrName)
		refuses(t, s, "root", "put /d"+c+"a", api.ErrName)
		puts(t, s, "root", "put /f a"+c+" "+c, "")
		puts(t, s, "root", "cat /f", "a"+c+" "+c)
	}
}

// TestEcho: P20.2, the arguments with one blank between, and a line feed, also of none.
func TestEcho(t *testing.T) {
	s := shell.New(tree.New())
	for _, c := range [][2]string{
		{"echo", "\n"}, {"echo ", "\n"}, {"  echo  ", "\n"}, {"echo a", "a\n"}, {"echo a b", "a b\n"}, {"  echo   a    b  c ", "a b c\n"}, {"echo echo echo", "echo echo\n"}, {"echo 1 /f", "1 /f\n"},
		{"echo -n a", "-n a\n"}, {"echo \\n \"a  b\"", "\\n \"a b\"\n"}, {"echo \xff\x00 ä", "\xff\x00 ä\n"}, {"echo " + strings.Repeat("a ", 37), strings.Repeat("a ", 36) + "a\n"},
	} {
		puts(t, s, "ann", c[0], c[1])
	}
}

// TestWhoami: P20.2, who, whatever text that is, and a line feed.
func TestWhoami(t *testing.T) {
	s := shell.New(tree.New())
	for _, who := range []string{"ann", "root", "", " ", "ann b", "a\nb", "\x00\xff", strings.Repeat("x", 1000)} {
		puts(t, s, who, "whoami", who+"\n")
		puts(t, s, who, " whoami  ", who+"\n")
	}
}

package shell_test

import (
	"fmt"
	"regexp"
	"strconv"
	"strings"
	"testing"

	"gangway/api"
	"gangway/probe"
	"gangway/shell"
	"gangway/tree"
)

// TestCat: P20.2, a file's data as they are, for who may read it.
func TestCat(t *testing.T) {
	for _, data := range []string{"", "a", "a\n", "a b  c", "\n\n", "\x00\xff\r", string(probe.Bytes(3, 1000))} {
		x := probe.Planted(probe.Dir("/d", "ann", 56), probe.File("/d/f", "root", 4, data), probe.File("/f", "ann", 32, data))
		s := shell.New(x)
		puts(t, s, "ann", "cat /f", data)
		puts(t, s, "root", "cat /f", data)
		puts(t, s, "ann", "cat /d/f", data)
		refuses(t, s, "bob", "cat /f", api.ErrMode)
		refuses(t, s, "bob", "cat /d/f", api.ErrMode)
		refuses(t, s, "ann", "cat /d", api.ErrIsDir)
		refuses(t, s, "ann", "cat /", api.ErrIsDir)
		refuses(t, s, "ann", "cat /g", api.ErrNotFound)
		refuses(t, s, "ann", "cat /f/f", api.ErrNotDir)
		refuses(t, s, "ann", "cat f", api.ErrName)
		refuses(t, s, "ann", "cat /..", api.ErrName)
	}
}

// TestLs: P20.2, each name in a directory, rising, and a line feed behind each.
func TestLs(t *testing.T) {
	x := probe.Planted(probe.Dir("/d", "ann", 48), probe.File("/d/b", "ann", 0, "b"), probe.Dir("/d/a", "ann", 1), probe.Dir("/d/a/x", "ann", 61), probe.File("/d/a0", "ann", 0, ""), probe.File("/f", "ann", 0, "f"))
	s := shell.New(x)
	for _, who := range []string{"ann", "root", "bob"} {
		puts(t, s, who, "ls /", "d\nf\n")
	}
	puts(t, s, "ann", "ls /d", "a\na0\nb\n")
	puts(t, s, "root", "ls /d/a", "x\n")
	puts(t, s, "root", "ls /d/a/x", "")
	refuses(t, s, "bob", "ls /d", api.ErrMode)
	refuses(t, s, "ann", "ls /d/a", api.ErrMode)
	refuses(t, s, "ann", "ls /f", api.ErrNotDir)
	refuses(t, s, "ann", "ls /f/", api.ErrName)
	refuses(t, s, "ann", "ls /g", api.ErrNotFound)
}

// TestPut: P20.2, the words with one blank between are a file of who with the mode 60; over one that is there its owner and mode stay.
func TestPut(t *testing.T) {
	x := probe.Planted(probe.Dir("/d", "ann", 61), probe.File("/d/f", "bob", 18, "old"))
	s := shell.New(x)
	puts(t, s, "ann", "put /d/new a  b   c ", "")
	puts(t, s, "ann", "put /d/none", "")
	puts(t, s, "ann", "  put   /d/put  put ", "")
	puts(t, s, "root", "put /x 60 /y", "")
	puts(t, s, "ann", "put /d/f over", "")
	want := []api.Node{
		probe.Dir("/d", "ann", 61), probe.File("/d/f", "bob", 18, "over"), probe.File("/d/new", "ann", 60, "a b c"), probe.File("/d/none", "ann", 60, ""), probe.File("/d/put", "ann", 60, "put"), probe.File("/x", "root", 60, "60 /y"),
	}
	holds(t, x, want...)
	puts(t, s, "ann", "put /d/f", "")
	want[1].Data = nil
	holds(t, x, want...)
	refuses(t, s, "bob", "put /d/x a", api.ErrMode)
	refuses(t, s, "bob", "put /d/new a", api.ErrMode)
	refuses(t, s, "ann", "put /d a", api.ErrIsDir)
	refuses(t, s, "ann", "put /g/f a", api.ErrNotFound)
	refuses(t, s, "ann", "put /d/f/f a", api.ErrNotDir)
	refuses(t, s, "ann", "put a /d/f", api.ErrName)
	holds(t, x, want...)
}

// TestMkdir: P20.2, a directory of who with the mode 61.
func TestMkdir(t *testing.T) {
	x := probe.Planted(probe.Dir("/d", "ann", 61), probe.File("/f", "ann", 61, "f"))
	s := shell.New(x)
	puts(t, s, "root", "mkdir /new", "")
	puts(t, s, "ann", "mkdir /d/new", "")
	want := []api.Node{probe.Dir("/d", "ann", 61), probe.Dir("/d/new", "ann", 61), probe.File("/f", "ann", 61, "f"), probe.Dir("/new", "root", 61)}
	holds(t, x, want...)
	for _, path := range []string{"/", "/d", "/f", "/new"} {
		refuses(t, s, "ann", "mkdir "+path, api.ErrExists)
	}
	refuses(t, s, "ann", "mkdir /x", api.ErrMode)
	refuses(t, s, "bob", "mkdir /d/x", api.ErrMode)
	refuses(t, s, "root", "mkdir /f/x", api.ErrNotDir)
	refuses(t, s, "root", "mkdir /g/x", api.ErrNotFound)
	refuses(t, s, "root", "mkdir /d/", api.ErrName)
	holds(t, x, want...)
}

// TestFull: P20.2, what would be the 65th node isn't made; what is there can be written.
func TestFull(t *testing.T) {
	x := tree.New()
	s := shell.New(x)
	for n := range 63 {
		puts(t, s, "root", fmt.Sprintf("%s /n%d", []string{"mkdir", "put"}[n%2], n), "")
	}
	refuses(t, s, "root", "mkdir /x", api.ErrFull)
	refuses(t, s, "root", "put /x", api.ErrFull)
	puts(t, s, "root", "put /n1 a", "")
	puts(t, s, "root", "rm /n0", "")
	puts(t, s, "root", "put /x", "")
	refuses(t, s, "root", "mkdir /n0", api.ErrFull)
	if n := len(x.Nodes()); n != 64 {
		t.Errorf("%d nodes", n)
	}
}

// TestRm: P20.2, a file, or a directory without nodes, goes, for who may write its parent.
func TestRm(t *testing.T) {
	x := probe.Planted(probe.Dir("/d", "ann", 61), probe.Dir("/d/e", "root", 0), probe.File("/d/f", "root", 0, "f"), probe.File("/f", "ann", 61, "f"))
	s := shell.New(x)
	refuses(t, s, "bob", "rm /d/f", api.ErrMode)
	refuses(t, s, "ann", "rm /f", api.ErrMode)
	refuses(t, s, "ann", "rm /", api.ErrArg)
	refuses(t, s, "root", "rm /", api.ErrArg)
	refuses(t, s, "root", "rm /d", api.ErrNotEmpty)
	refuses(t, s, "root", "rm /d/x", api.ErrNotFound)
	refuses(t, s, "root", "rm /f/x", api.ErrNotDir)
	refuses(t, s, "root", "rm d", api.ErrName)
	holds(t, x, probe.Dir("/d", "ann", 61), probe.Dir("/d/e", "root", 0), probe.File("/d/f", "root", 0, "f"), probe.File("/f", "ann", 61, "f"))
	puts(t, s, "ann", "rm /d/e", "")
	puts(t, s, "ann", "rm /d/f", "")
	holds(t, x, probe.Dir("/d", "ann", 61), probe.File("/f", "ann", 61, "f"))
	refuses(t, s, "ann", "rm /d/f", api.ErrNotFound)
	puts(t, s, "root", "rm /d", "")
	holds(t, x, probe.File("/f", "ann", 61, "f"))
}

// TestChmod: P20.2, each mode, for the owner and root; a number that is no mode is the tree's error, and not usage.
func TestChmod(t *testing.T) {
	x := probe.Planted(probe.Dir("/d", "ann", 61), probe.File("/f", "ann", 61, "f"))
	s := shell.New(x)
	for n := range 256 {
		line := "chmod " + strconv.Itoa(n)
		if n > 63 {
			refuses(t, s, "ann", line+" /f", api.ErrArg)
			refuses(t, s, "ann", line+" /x", api.ErrArg)
			continue
		}
		puts(t, s, "ann", line+" /f", "")
		puts(t, s, "root", line+" /d", "")
		holds(t, x, probe.Dir("/d", "ann", n), probe.File("/f", "ann", n, "f"))
		refuses(t, s, "bob", line+" /f", api.ErrMode)
		refuses(t, s, "ann", line+" /x", api.ErrNotFound)
		refuses(t, s, "root", line+" /f/x", api.ErrNotDir)
		refuses(t, s, "root", line+" f", api.ErrName)
		refuses(t, s, "ann", line+" "+line[6:], api.ErrName)
	}
	holds(t, x, probe.Dir("/d", "ann", 63), probe.File("/f", "ann", 63, "f"))
}

// TestExit: P20.2, the code is the number; nothing else is done, and the shell goes on.
func TestExit(t *testing.T) {
	s := shell.New(tree.New())
	for n := range 1200 {
		line := "exit " + strconv.Itoa(n)
		if n > 255 {
			misuses(t, s, line)
			continue
		}
		runs(t, s, "ann", line, "", "", n)
		runs(t, s, "ann", fmt.Sprintf("  exit   %03d ", n), "", "", n)
	}
	puts(t, s, "ann", "echo a", "a\n")
}

// TestNumbers: P20.2, 1 to 3 digits, of a value up to 255, are a number, and nothing else is, for both commands that take one.
func TestNumbers(t *testing.T) {
	x := probe.Planted(probe.File("/f", "ann", 0, "f"))
	s := shell.New(x)
	number := regexp.MustCompile(`^[0-9]{1,3}$`)
	check := func(word string) {
		n, err := strconv.Atoi(word)
		switch {
		case !number.MatchString(word) || strings.Contains(word, "\n") || err != nil || n > 255:
			misuses(t, s, "exit "+word)
			misuses(t, s, "chmod "+word+" /f")
		case n > 63:
			runs(t, s, "ann", "exit "+word, "", "", n)
			refuses(t, s, "ann", "chmod "+word+" /f", api.ErrArg)
		default:
			runs(t, s, "ann", "exit "+word, "", "", n)
			puts(t, s, "ann", "chmod "+word+" /f", "")
			holds(t, x, probe.File("/f", "ann", n, "f"))
		}
	}
	for word := range probe.Texts("01256/:a-+.", 4) {
		if word != "" {
			check(word)
		}
	}
	for c := range 256 {
		if c != ' ' {
			check(string([]byte{byte(c)}))
			check(string([]byte{'1', byte(c)}))
			check(string([]byte{byte(c), '1'}))
			check(string([]byte{'1', byte(c), '0'}))
		}
	}
	for _, word := range []string{"0000", "0001", "0255", "00000", "256", "999", "1000", "99999999999999999999", "18446744073709551617", "4294967297", "0x1", "1e1", "1_0", "٣", "१", "²", "-0", "+1", "1.", "1\n"} {
		check(word)
	}
}

// TestUsageFirst: P20.2, arguments that a command doesn't take are told ahead of the tree's errors.
func TestUsageFirst(t *testing.T) {
	x := tree.New()
	s := shell.New(x)
	for _, line := range []string{"chmod 256 /x", "chmod a /x", "chmod 999 x", "chmod 0777 /", "chmod -1 /x/y", "cat x y", "ls x y", "mkdir / /", "rm / /x"} {
		misuses(t, s, line)
	}
	holds(t, x)
}

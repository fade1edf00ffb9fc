package shell_test

import (
	"bytes"
	"fmt"
	"regexp"
	"slices"
	"strconv"
	"strings"
	"testing"

	"gangway/api"
	"gangway/probe"
	"gangway/shell"
	"gangway/tree"
)

// twin does as a Shell does: expressions tell what each line means.
type twin struct {
	x   *tree.Tree
	ran []api.Ran
}

// row is a line of the chapter's table: an expression of the arguments, and what is done with them.
type row struct {
	args *regexp.Regexp
	do   func(x *tree.Tree, who string, args []string) ([]byte, api.Errno)
}

// rows gives the chapter's table. The number stands as bytes in what exit answers.
func rows() map[string]row {
	return map[string]row{
		"echo": {regexp.MustCompile(`^`), func(_ *tree.Tree, _ string, args []string) ([]byte, api.Errno) {
			return fmt.Appendln(nil, strings.Join(args, " ")), 0
		}},
		"whoami": {regexp.MustCompile(`^$`), func(_ *tree.Tree, who string, _ []string) ([]byte, api.Errno) { return fmt.Appendln(nil, who), 0 }},
		"cat":    {regexp.MustCompile(`^ [^ ]+$`), func(x *tree.Tree, who string, args []string) ([]byte, api.Errno) { return x.Read(who, args[0]) }},
		"ls": {regexp.MustCompile(`^ [^ ]+$`), func(x *tree.Tree, who string, args []string) ([]byte, api.Errno) {
			names, e := x.List(who, args[0])
			return []byte(strings.Join(append(names, "")[:len(names)+1], "\n")), e
		}},
		"put": {regexp.MustCompile(`^ [^ ]+`), func(x *tree.Tree, who string, args []string) ([]byte, api.Errno) {
			return nil, x.Write(who, args[0], bytes.Join(asBytes(args[1:]), []byte{32}), 7*8+4)
		}},
		"mkdir": {regexp.MustCompile(`^ [^ ]+$`), func(x *tree.Tree, who string, args []string) ([]byte, api.Errno) {
			return nil, x.Mkdir(who, args[0], 7*8+5)
		}},
		"rm": {regexp.MustCompile(`^ [^ ]+$`), func(x *tree.Tree, who string, args []string) ([]byte, api.Errno) { return nil, x.Remove(who, args[0]) }},
		"chmod": {regexp.MustCompile(`^ ([01]?[0-9]?[0-9]|2[0-4][0-9]|25[0-5]) [^ ]+$`), func(x *tree.Tree, who string, args []string) ([]byte, api.Errno) {
			n, _ := strconv.Atoi(args[0])
			return nil, x.Chmod(who, args[1], n)
		}},
		"exit": {regexp.MustCompile(`^ ([01]?[0-9]?[0-9]|2[0-4][0-9]|25[0-5])$`), nil},
	}
}

// asBytes gives texts as bytes.
func asBytes(texts []string) [][]byte {
	var list [][]byte
	for _, s := range texts {
		list = append(list, []byte(s))
	}
	return list
}

// run does as Run does.
func (w *twin) run(rows map[string]row, who, line string) api.Output {
	out := w.output(rows, who, line)
	w.ran = append(w.ran, api.Ran{Who: who, Line: line, Code: out.Code})
	return out
}

// output does what run puts out.
func (w *twin) output(rows map[string]row, who, line string) api.Output {
	words := slices.DeleteFunc(strings.Split(line, " "), func(s string) bool { return s == "" })
	if len(line) > 80 {
		return api.Output{Code: 126}
	}
	if len(words) == 0 {
		return api.Output{}
	}
	r, known := rows[words[0]]
	args := strings.TrimPrefix(strings.Join(words, " "), words[0])
	if !known {
		return api.Output{Err: []byte(words[0] + ": 110\n"), Code: 127}
	}
	if !r.args.MatchString(args) {
		return api.Output{Err: []byte(words[0] + ": 1\n"), Code: 2}
	}
	if r.do == nil {
		n, _ := strconv.Atoi(words[1])
		return api.Output{Code: n}
	}
	out, e := r.do(w.x, who, words[1:])
	if e != 0 {
		return api.Output{Err: fmt.Appendf(nil, "%s: %d\n", words[0], int(e)), Code: 1}
	}
	return api.Output{Out: out}
}

// someLine gives a line, most often one of a known command with arguments that it takes, over paths of which some are there; in a tree that grows nothing is removed.
func someLine(d *probe.Dice, grows bool) string {
	pick := func(list ...string) string { return list[d.Roll(len(list))] }
	path := func() string {
		if grows && d.Roll(2) == 0 {
			return "/n" + strconv.Itoa(d.Roll(80))
		}
		return pick("/", "/a", "/b", "/a/b", "/a/c", "/b/a", "/a/b/c", "/c", "/a/b/c/d/e/f", "/home", "/home/x", "/home/ann", "/home/ann/f", "a", "/..", "/n"+strconv.Itoa(d.Roll(80)))
	}
	number := func() string {
		return pick("0", "7", "61", "56", "63", "64", "255", "256", "007", "0000", "a", "-1", "1000", "063", strconv.Itoa(d.Roll(300)))
	}
	words := [][]string{
		{"echo", "a", path()}, {"whoami"}, {"cat", path()}, {"ls", path()}, {"put", path(), d.Text(d.Roll(5)), "x"}, {"put", path()}, {"mkdir", path()}, {"mkdir", path()},
		{"rm", path()}, {"chmod", number(), path()}, {"exit", number()}, {d.Text(1 + d.Roll(4)), path()}, {},
	}[d.Roll(13)]
	if grows && len(words) > 0 && words[0] == "rm" {
		words[0] = "ls"
	}
	switch d.Roll(12) {
	case 0:
		words = append(words, pick("x", "7", "/a"))
	case 1:
		words = words[:len(words)-min(1, len(words))]
	case 2:
		words = append(words, strings.Repeat("y", 55+d.Roll(30)))
	}
	line := ""
	for i, word := range words {
		line += strings.Repeat(" ", d.Roll(3)/2+min(i, 1)) + word
	}
	return line + strings.Repeat(" ", d.Roll(2))
}

// TestLongRun: P20.1, P20.2 and rule 3, many lines in no order: what is put out, the tree and the log behind each are those of a twin.
func TestLongRun(t *testing.T) {
	met := map[string]int{}
	table := rows()
	for seed := range uint64(40) {
		d := probe.NewDice(seed)
		x := tree.New()
		s, w := shell.New(x), &twin{x: tree.New()}
		for i := range 1000 {
			who, line := []string{"root", "root", "ann", "bob", ""}[d.Roll(5)], someLine(d, seed%2 == 1)
			if i == 0 {
				who, line = "root", "chmod 63 /"
			}
			got, want := s.Run(who, line), w.run(table, who, line)
			if !probe.SameOutput(got, want) || !probe.SameNodes(x.Nodes(), w.x.Nodes()) {
				t.Fatalf("seed %d, step %d: %q, %q: %+v, not %+v", seed, i, who, line, got, want)
			}
			met[tell(line, want)]++
		}
		logs(t, s, w.ran...)
	}
	for what, least := range map[string]int{
		"": 400, "unknown": 400, "long": 400,
		"echo 0": 400, "whoami 0": 400, "cat 0": 50, "ls 0": 100, "put 0": 200, "mkdir 0": 100, "rm 0": 100, "chmod 0": 100, "exit 0": 30, "exit 7": 30, "exit 255": 30,
		"whoami: 1": 50, "cat: 1": 50, "ls: 1": 50, "put: 1": 20, "mkdir: 1": 50, "rm: 1": 50, "chmod: 1": 50, "exit: 1": 50,
		"cat: 30": 20, "cat: 110": 20, "cat: 112": 10, "cat: 113": 20, "cat: 114": 5, "ls: 30": 20, "ls: 110": 20, "ls: 112": 20, "ls: 114": 5, "put: 30": 20, "put: 110": 20, "put: 112": 20, "put: 113": 20, "put: 114": 20, "put: 2": 5,
		"mkdir: 30": 20, "mkdir: 110": 20, "mkdir: 111": 20, "mkdir: 112": 20, "mkdir: 114": 20, "mkdir: 2": 5, "rm: 30": 20, "rm: 110": 20, "rm: 114": 20, "rm: 115": 20, "chmod: 30": 20, "chmod: 110": 20, "chmod: 114": 20,
	} {
		if met[what] < least {
			t.Errorf("%q was met %d times", what, met[what])
		}
	}
}

// tell tells what became of a line: its command and the code, or what was put out of an error.
func tell(line string, out api.Output) string {
	command, _, _ := strings.Cut(strings.TrimLeft(line, " "), " ")
	switch {
	case len(out.Err) == 0 && out.Code == 126 && len(line) > 80:
		return "long"
	case out.Code == 127:
		return "unknown"
	case len(out.Err) > 0:
		return strings.TrimSpace(string(out.Err))
	case command == "":
		return ""
	}
	return command + " " + strconv.Itoa(out.Code)
}

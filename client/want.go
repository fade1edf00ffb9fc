package client

import (
	"bytes"
	"slices"
	"strings"

	"gangway/api"
	"gangway/authz"
	"gangway/name"
	"gangway/tree"
)

const maxCommand = 60 // bytes

// isRight tells whether a want is right; what its service has no use for plays no part.
func isRight(w api.Want) bool {
	if _, e := name.Parse(w.Server); e != api.OK || !authz.Account(w.Account) {
		return false
	}
	switch w.Service {
	case api.SvcRun:
		return len(w.Lines) == 1 && len(w.Lines[0]) <= maxCommand && !strings.Contains(w.Lines[0], "\n")
	case api.SvcLogin, api.SvcTelnet:
		return len(w.Lines) <= api.MaxTake && !slices.ContainsFunc(w.Lines, cannotBeTyped)
	case api.SvcCopy:
		return tree.Path(w.Path) && tree.Path(w.To)
	}
	return false
}

// cannotBeTyped tells whether a line isn't one for a login.
func cannotBeTyped(line string) bool {
	return len(line) > api.MaxLine || strings.ContainsFunc(line, func(r rune) bool { return r < ' ' || r > '~' })
}

// said gives what is said on ChanIn of a want: a first line, which tells what is asked for, and what comes behind it; of a copy that is its stream.
func said(w api.Want, stream []byte) []byte {
	switch w.Service {
	case api.SvcRun:
		return []byte("run " + w.Account + " " + w.Lines[0] + "\n")
	case api.SvcCopy:
		how := "plain"
		if w.Modes {
			how = "modes"
		}
		return slices.Concat([]byte("copy "+w.Account+" "+w.To+" "+how+"\n"), stream)
	}
	typed := "login " + w.Account + " -\n"
	for _, line := range w.Lines {
		typed += line + "\r"
	}
	return []byte(typed)
}

// apart gives a copy of what became of a want that shares no memory with it.
func apart(g api.Got) api.Got {
	g.Want = apartWant(g.Want)
	g.Out, g.Err = bytes.Clone(g.Out), bytes.Clone(g.Err)
	g.Sent = apartLines(g.Sent)
	return g
}

// apartWant gives a copy of a want that shares no memory with it.
func apartWant(w api.Want) api.Want {
	w.Server, w.Account = strings.Clone(w.Server), strings.Clone(w.Account)
	w.Lines = apartLines(w.Lines)
	w.Path, w.To = strings.Clone(w.Path), strings.Clone(w.To)
	return w
}

// apartLines gives a copy of lines that shares no memory with them.
func apartLines(lines []string) []string {
	lines = slices.Clone(lines)
	for i, line := range lines {
		lines[i] = strings.Clone(line)
	}
	return lines
}

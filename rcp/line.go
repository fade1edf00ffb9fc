package rcp

import (
	"strconv"
	"strings"

	"gangway/api"
	"gangway/tree"
)

// The kinds of lines, by their letters.
const (
	fileLine = 'C'
	dirLine  = 'D'
	endLine  = 'E'
)

const (
	top      = "/"
	octal    = 8
	lineFeed = '\n'
	fileEnd  = 0 // the byte behind a file's data
)

// line is one of a stream's lines; the end of a directory has a kind alone.
type line struct {
	kind       byte
	mode, size int
	name       string
}

// text gives the line of a node, with its line feed.
func (l line) text() string {
	head := string([]byte{l.kind, byte('0' + l.mode/octal), byte('0' + l.mode%octal)})
	return head + " " + strconv.Itoa(l.size) + " " + l.name + string(lineFeed)
}

// readLine reads what came ahead of a line feed; false, if it isn't a line.
func readLine(text string) (line, bool) {
	if text == string(endLine) {
		return line{kind: endLine}, true
	}
	words := strings.Split(text, " ")
	if len(words) != 3 {
		return line{}, false
	}
	kind, mode, isHead := readHead(words[0])
	size, isSize := readSize(words[1])
	if !isHead || !isSize || !isName(words[2]) || kind == dirLine && size != 0 {
		return line{}, false
	}
	return line{kind: kind, mode: mode, size: size, name: words[2]}, true
}

// readHead reads a node's letter and its mode.
func readHead(head string) (kind byte, mode int, ok bool) {
	if len(head) != 3 || head[0] != fileLine && head[0] != dirLine {
		return 0, 0, false
	}
	for _, digit := range [...]byte{head[1], head[2]} {
		if digit < '0' || digit >= '0'+octal {
			return 0, 0, false
		}
		mode = mode*octal + int(digit-'0')
	}
	return head[0], mode, true
}

// readSize reads how many bytes a file has; what isn't written as such a number would be is none.
func readSize(digits string) (int, bool) {
	n, err := strconv.Atoi(digits)
	if err != nil || n < 0 || n > api.MaxFile || strconv.Itoa(n) != digits {
		return 0, false
	}
	return n, true
}

// isName tells whether a text may be the name of a node.
func isName(s string) bool {
	return !strings.Contains(s, top) && tree.Path(join(top, s)) && s != ""
}

// join gives the path of a name in a directory.
func join(dir, name string) string { return strings.TrimSuffix(dir, top) + top + name }

// last gives a path's last name.
func last(path string) string { return path[strings.LastIndex(path, top)+1:] }

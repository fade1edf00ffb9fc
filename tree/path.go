package tree

import (
	"iter"
	"strings"

	"gangway/api"
)

const top = "/"

// Path tells whether a text is a path.
func Path(s string) bool {
	if s == top {
		return true
	}
	names, begins := strings.CutPrefix(s, "/")
	if !begins || strings.Count(names, "/") >= api.MaxDepth {
		return false
	}
	for name := range strings.SplitSeq(names, "/") {
		if !rightName(name) {
			return false
		}
	}
	return true
}

// rightName tells whether a text may be a name in a path.
func rightName(s string) bool {
	if len(s) < 1 || len(s) > api.MaxFileName || s == "." || s == ".." {
		return false
	}
	for i := range len(s) {
		if !rightByte(s[i]) {
			return false
		}
	}
	return true
}

// rightByte tells whether a byte may stand in a name.
func rightByte(c byte) bool {
	switch {
	case 'A' <= c && c <= 'Z', 'a' <= c && c <= 'z', '0' <= c && c <= '9':
		return true
	}
	return c == '-' || c == '.' || c == '_'
}

// ahead goes through the paths of the directories on the way to a path, from the top down.
func ahead(path string) iter.Seq[string] {
	return func(yield func(string) bool) {
		if path == top || !yield(top) {
			return
		}
		for i := 1; i < len(path); i++ {
			if path[i] == '/' && !yield(path[:i]) {
				return
			}
		}
	}
}

// parent gives a path's parent; that of the top is the top.
func parent(path string) string {
	return path[:max(strings.LastIndex(path, "/"), len(top))]
}

// last gives a path's last name, as a copy: an answer must not share memory with the path that is kept.
func last(path string) string {
	return strings.Clone(path[strings.LastIndex(path, "/")+1:])
}

package rcp

import (
	"strings"

	"gangway/api"
	"gangway/tree"
)

// The modes of what is made, if those of the stream don't count.
const (
	fileMode = 60
	dirMode  = 61
)

// Sink takes bytes by which something is copied.
type Sink struct {
	files     *tree.Tree
	who, path string
	modes     bool

	begun  bool     // whether the first line has come
	within bool     // whether the path was a directory then: what comes is put into it
	dirs   []string // the paths of the stream's directories that it is inside of, the outermost first
	text   []byte   // what came of a line that isn't whole yet
	file   *file    // the file that isn't whole yet; nil, if a line comes
	made   int
	failed api.Errno
}

// file is a file whose line has come.
type file struct {
	path       string
	mode, size int
	data       []byte
}

// NewSink gives a Sink that copies to a path.
func NewSink(t *tree.Tree, who, path string, modes bool) *Sink {
	return &Sink{files: t, who: strings.Clone(who), path: strings.Clone(path), modes: modes}
}

// Feed takes a piece.
func (s *Sink) Feed(data []byte) api.Errno {
	for _, c := range data {
		if s.failed != api.OK {
			break
		}
		s.failed = s.take(c)
	}
	return s.failed
}

// Close tells whether all has come.
func (s *Sink) Close() api.Errno {
	switch {
	case s.failed != api.OK:
		return s.failed
	case !s.begun, len(s.text) > 0, s.file != nil, len(s.dirs) > 0:
		return api.ErrCopy
	}
	return api.OK
}

// Made tells how many files and directories were made, or written.
func (s *Sink) Made() int { return s.made }

// take takes a byte, and does what it makes whole.
func (s *Sink) take(c byte) api.Errno {
	switch {
	case s.file != nil:
		return s.takeData(c)
	case c == lineFeed:
		text := string(s.text)
		s.text = nil
		return s.takeLine(text)
	case len(s.text) == api.MaxLine:
		return api.ErrForm
	}
	s.text = append(s.text, c)
	return api.OK
}

// takeData takes a byte of a file, or the one behind it.
func (s *Sink) takeData(c byte) api.Errno {
	f := s.file
	switch {
	case len(f.data) < f.size:
		f.data = append(f.data, c)
		return api.OK
	case c != fileEnd:
		return api.ErrForm
	}
	s.file = nil
	return s.count(s.files.Write(s.who, f.path, f.data, f.mode))
}

// takeLine does what a line asks for.
func (s *Sink) takeLine(text string) api.Errno {
	l, ok := readLine(text)
	if !ok || !s.mayFollow(l) {
		return api.ErrForm
	}
	if !s.begun {
		s.begun, s.within = true, s.isDir(s.path)
	}
	switch l.kind {
	case endLine:
		s.dirs = s.dirs[:len(s.dirs)-1]
		return api.OK
	case dirLine:
		return s.enter(s.place(l.name), s.mode(l.mode, dirMode))
	}
	s.file = &file{path: s.place(l.name), mode: s.mode(l.mode, fileMode), size: l.size}
	return api.OK
}

// mayFollow tells whether a line may stand behind what came: inside a directory each may; else no end, and a node only as the first one or within the path.
func (s *Sink) mayFollow(l line) bool {
	return len(s.dirs) > 0 || l.kind != endLine && (!s.begun || s.within)
}

// enter makes a directory, if it isn't there, and goes inside.
func (s *Sink) enter(path string, mode int) api.Errno {
	e := api.OK
	if !s.isDir(path) {
		e = s.files.Mkdir(s.who, path, mode)
	}
	if e == api.OK {
		s.dirs = append(s.dirs, path)
	}
	return s.count(e)
}

// count counts what was made, and hands its error on.
func (s *Sink) count(e api.Errno) api.Errno {
	if e == api.OK {
		s.made++
	}
	return e
}

// isDir tells whether there is a directory at a path, whoever may come to it.
func (s *Sink) isDir(path string) bool {
	n, e := s.files.Stat(api.Root, path)
	return e == api.OK && n.Dir
}

// place gives the path of the node of a line.
func (s *Sink) place(name string) string {
	switch {
	case len(s.dirs) > 0:
		return join(s.dirs[len(s.dirs)-1], name)
	case s.within:
		return join(s.path, name)
	}
	return s.path
}

// mode gives the mode by which something is made: the stream's, if those count.
func (s *Sink) mode(told, other int) int {
	if s.modes {
		return told
	}
	return other
}

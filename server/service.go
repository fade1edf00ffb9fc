package server

import (
	"bytes"
	"strings"

	"gangway/api"
	"gangway/authz"
	"gangway/pty"
	"gangway/rcp"
	"gangway/shell"
	"gangway/tree"
)

// wish is what the first line of a session asks for.
type wish struct {
	service           int
	account, argument string // of run the command, of copy the path
	modes             bool
}

// parse gives what a line asks for; false, if that is nothing.
func parse(line string) (wish, bool) {
	words := strings.SplitN(line, " ", 3)
	if len(words) < 3 || !authz.Account(words[1]) {
		return wish{}, false
	}
	w := wish{account: words[1], argument: words[2]}
	switch words[0] {
	case "run":
		w.service = api.SvcRun
		return w, true
	case "login":
		w.service = api.SvcLogin
		return w, w.argument == "-"
	case "copy":
		path, how, _ := strings.Cut(w.argument, " ")
		w.service, w.argument, w.modes = api.SvcCopy, path, how == "modes"
		return w, tree.Path(path) && (w.modes || how == "plain")
	}
	return wish{}, false
}

// begin gives what takes a session's first line, and hands on to what that asks for what comes behind it.
func (s *Server) begin(x *session) func([]byte) {
	var came []byte
	return func(typed []byte) {
		came = append(came, typed...)
		line, rest, whole := bytes.Cut(came, []byte{'\n'})
		switch {
		case len(line) > api.MaxLine: // whether it is whole or not
			x.fail(api.ErrForm)
		case whole:
			s.serve(x, string(line))
			if x.takes != nil {
				x.takes(rest)
			}
		}
	}
}

// serve does what a session's first line asks for, if it may, or lets the session go on with it.
func (s *Server) serve(x *session, line string) {
	w, right := parse(line)
	switch {
	case !right:
		x.fail(api.ErrForm)
		return
	case s.rules.Allowed(x.did.Client, w.account, s.logins(w.account)) != nil:
		x.fail(api.ErrDenied)
		return
	}
	x.did.Service, x.did.Account = w.service, w.account
	switch w.service {
	case api.SvcRun:
		s.run(x, w.argument)
	case api.SvcLogin:
		x.takes = s.login(x)
	case api.SvcCopy:
		x.takes = s.copy(x, w.argument, w.modes)
	}
}

// logins gives the principals that an account's owner lets come as it.
func (s *Server) logins(account string) []string {
	text, _ := s.files.Read(api.Root, "/users/"+account+"/.k5login")
	var list []string
	for line := range strings.SplitSeq(string(text), "\n") {
		if line != "" {
			list = append(list, line)
		}
	}
	return list
}

// run runs a session's only command.
func (s *Server) run(x *session, command string) {
	done := s.runLine(x, command)
	x.put(api.ChanOut, done.Out)
	x.put(api.ChanErr, done.Err)
	x.finish(done.Code)
}

// login gives what takes the bytes that are typed at a session's terminal.
func (s *Server) login(x *session) func([]byte) {
	terminal, code := pty.New(), 0
	return func(typed []byte) {
		for i := range typed {
			shown, lines := terminal.Feed(typed[i : i+1])
			x.put(api.ChanOut, shown)
			for _, line := range lines {
				done := s.runLine(x, line)
				x.put(api.ChanOut, done.Out)
				x.put(api.ChanOut, done.Err)
				code = done.Code
				if isExit(line) && len(done.Err) == 0 {
					x.finish(code)
					return
				}
			}
		}
		if x.Ended(api.ChanIn) {
			x.finish(code)
		}
	}
}

// isExit tells whether a line is one by which a login is left.
func isExit(line string) bool {
	words := shell.Words(line)
	return len(words) > 0 && words[0] == "exit"
}

// copy gives what takes the bytes of a copy.
func (s *Server) copy(x *session, path string, modes bool) func([]byte) {
	sink := rcp.NewSink(s.files, x.did.Account, path, modes)
	return func(data []byte) {
		if sink.Feed(data) == api.OK && !x.Ended(api.ChanIn) {
			return
		}
		if e := sink.Close(); e != api.OK {
			x.fail(e)
			return
		}
		x.finish(0)
	}
}

// runLine runs a line for a session's account.
func (s *Server) runLine(x *session, line string) api.Output {
	x.did.Lines = append(x.did.Lines, line)
	return s.shell.Run(x.did.Account, line)
}

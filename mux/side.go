package mux

import (
	"bytes"
	"slices"

	"gangway/api"
)

const maxWait = 4096 // bytes of a channel that wait to be sent

// side is one side of one channel, in both directions.
type side struct {
	waits  []byte // to be sent
	credit int    // how many more bytes may be sent
	closed bool
	told   bool // that it is closed

	came  []byte // and wasn't read
	room  int    // how many more bytes may come
	read  int    // bytes of which the other side doesn't know yet that there is room for as many
	ended bool
}

// write lets bytes wait.
func (s *side) write(data []byte) api.Errno {
	switch {
	case s.closed:
		return api.ErrClosed
	case len(data) > maxWait-len(s.waits):
		return api.ErrFull
	}
	s.waits = append(s.waits, data...)
	return api.OK
}

// close lets nothing be written any more.
func (s *side) close() api.Errno {
	if s.closed {
		return api.ErrClosed
	}
	s.closed = true
	return api.OK
}

// maySend tells whether there are bytes to be sent now.
func (s *side) maySend() bool { return len(s.waits) > 0 && s.credit > 0 }

// send gives the bytes of the next frame.
func (s *side) send() []byte {
	body := cut(&s.waits, min(s.credit, api.MaxFrame))
	s.credit -= len(body)
	return body
}

// mustEnd tells whether the end is to be told now: behind all bytes.
func (s *side) mustEnd() bool { return s.closed && !s.told && len(s.waits) == 0 }

// grant lets the other side send as many bytes more as were read, and gives how many.
func (s *side) grant() int {
	n := s.read
	s.room, s.read = s.room+n, 0
	return n
}

// more takes credit.
func (s *side) more(n int) api.Errno {
	if n > api.MaxCredit-s.credit {
		return api.ErrCredit
	}
	s.credit += n
	return api.OK
}

// end takes the end.
func (s *side) end() api.Errno {
	if s.ended {
		return api.ErrClosed
	}
	s.ended = true
	return api.OK
}

// take takes bytes.
func (s *side) take(data []byte) api.Errno {
	switch {
	case s.ended:
		return api.ErrClosed
	case len(data) > s.room:
		return api.ErrCredit
	}
	s.came = append(s.came, data...)
	s.room -= len(data)
	return api.OK
}

// give gives the first bytes that came.
func (s *side) give(most int) []byte {
	data := cut(&s.came, most)
	s.read += len(data)
	return data
}

// cut takes the first bytes out of a list, most at most.
func cut(list *[]byte, most int) []byte {
	n := min(most, len(*list))
	first := bytes.Clone((*list)[:n])
	*list = slices.Delete(*list, 0, n)
	return first
}

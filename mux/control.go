package mux

import "gangway/api"

const sizeControl = 4 // bytes of a control frame's body: the kind, the channel, and a number in two

// The kinds of control frames.
const (
	kindCredit = iota + 1
	kindEnd
)

// control gives a control frame.
func control(kind byte, channel, number int) api.Frame {
	return api.Frame{Channel: api.ChanControl, Body: []byte{kind, byte(channel), byte(number >> 8), byte(number)}}
}

// takeControl takes the body of a control frame.
func (m *Mux) takeControl(body []byte) api.Errno {
	if len(body) != sizeControl {
		return api.ErrForm
	}
	s, number := m.side(int(body[1])), int(body[2])<<8|int(body[3])
	switch kind := body[0]; {
	case s == nil:
		return api.ErrForm
	case kind == kindCredit:
		return s.more(number)
	case kind == kindEnd && number == 0:
		return s.end()
	}
	return api.ErrForm
}

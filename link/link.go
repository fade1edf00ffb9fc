// Package link has what layers 24 and 25 share: one side of a session, with its channels over its pipe; and how data that come are read. See shared/doc/24-server.md.
package link

import (
	"gangway/api"
	"gangway/frame"
	"gangway/mux"
	"gangway/priv"
	"gangway/seal"
)

const (
	maxPiece = 1000 // bytes that go over a pipe at a time
	endFrame = 2    // the first byte of a control frame that ends a channel
)

// Link is one side of a session.
type Link struct {
	*priv.Pipe
	*mux.Mux
	nonce  uint64
	reader *frame.Reader // of what comes over the pipe
	waits  []byte        // what is said that the pipe hasn't taken yet
	ends   int           // how many of its channels' ends are among what it has said
}

// New gives a side of a session over which nothing went.
func New(s *seal.Sealer, key api.Key, nonce uint64, side int) *Link {
	return &Link{Pipe: priv.New(s, key, side), Mux: mux.New(), nonce: nonce, reader: frame.NewReader()}
}

// Hear hands what has come over the pipe to the channels.
func (l *Link) Hear(came [][]byte) api.Errno {
	for _, data := range came {
		frames, e := l.reader.Feed(data)
		if e != api.OK {
			return e
		}
		for _, f := range frames {
			if e := l.Take(f); e != api.OK {
				return e
			}
		}
	}
	return api.OK
}

// Say lets go over the pipe what it takes of all that is said, and gives the boxes that are new on it.
func (l *Link) Say() [][]byte {
	for _, f := range l.Out() {
		text, _ := frame.Write(f)
		l.waits = append(l.waits, text...)
		if f.Channel == api.ChanControl && f.Body[0] == endFrame {
			l.ends++
		}
	}
	old := l.Open()
	for len(l.waits) > 0 {
		n := min(len(l.waits), maxPiece)
		if l.Send(l.waits[:n]) != api.OK {
			break
		}
		l.waits = l.waits[n:]
	}
	return l.Boxes()[old:]
}

// Messages gives boxes as messages of the session.
func (l *Link) Messages(boxes [][]byte) []api.Krb {
	var list []api.Krb
	for _, box := range boxes {
		list = append(list, api.Krb{Kind: api.KrbData, Nonce: l.nonce, Sealed: box})
	}
	return list
}

// IsHeard tells whether so many channels' ends have been said, and all that was said has gone over the pipe and is acknowledged.
func (l *Link) IsHeard(ends int) bool {
	return l.ends == ends && len(l.waits) == 0 && l.Open() == 0
}

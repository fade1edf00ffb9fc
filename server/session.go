package server

import (
	"strconv"

	"gangway/api"
	"gangway/frame"
	"gangway/mux"
	"gangway/priv"
	"gangway/seal"
)

const (
	ownSide  = 1    // of a pipe
	maxPiece = 1000 // bytes that go over a pipe at a time
	endFrame = 2    // the first byte of a control frame that ends a channel
)

// session is what goes on with who came, over a pipe and its channels.
type session struct {
	*priv.Pipe
	*mux.Mux
	did    api.Served
	asked  []byte             // the message by which it came
	answer api.Krb            // what that was answered
	host   int                // that it came from
	end    int64              // of its ticket
	reader *frame.Reader      // of what comes over the pipe
	takes  func(typed []byte) // what it runs, which is handed what comes on ChanIn; nil, once it is done
	waits  []byte             // what it says that the pipe hasn't taken yet
	ends   int                // how many of its channels' ends are among what it has said
	idle   int                // ticks since something of its came
}

// newSession gives a session over which nothing went.
func newSession(s *seal.Sealer, known api.Session) *session {
	return &session{
		Pipe: priv.New(s, known.Key, ownSide), Mux: mux.New(), reader: frame.NewReader(), end: known.End,
		did: api.Served{Key: known.Key, Client: known.Client, Nonce: known.Nonce},
	}
}

// drop ends a session: only what it did is kept.
func (x *session) drop() {
	*x = session{did: x.did}
	x.did.Over = true
}

// isOver tells whether a session has come to its end.
func (x *session) isOver(now int64) bool {
	return x.isHeard() || x.idle >= api.MaxIdle || now > x.end+api.Skew
}

// isHeard tells whether a session is done, and all that it said has gone over its pipe and is acknowledged: it ends its channels when it is done, and each end goes behind all that was written to the channel.
func (x *session) isHeard() bool {
	return x.ends == len(ownChannels()) && len(x.waits) == 0 && x.Open() == 0
}

// hear takes what has come over the pipe.
func (x *session) hear(came [][]byte) api.Errno {
	for _, data := range came {
		frames, e := x.reader.Feed(data)
		if e != api.OK {
			return e
		}
		for _, f := range frames {
			if e := x.Take(f); e != api.OK {
				return e
			}
		}
	}
	return api.OK
}

// goOn takes all that has come on ChanIn; what comes for one that is done is read, too, and lost.
func (x *session) goOn() {
	typed := x.Read(api.ChanIn, api.MaxCredit)
	if x.takes != nil {
		x.takes(typed)
	}
}

// say lets go over the pipe what it takes of all that is said, and gives the boxes that are new on it.
func (x *session) say() [][]byte {
	for _, f := range x.Out() {
		text, _ := frame.Write(f)
		x.waits = append(x.waits, text...)
		if f.Channel == api.ChanControl && f.Body[0] == endFrame {
			x.ends++
		}
	}
	old := x.Open()
	for len(x.waits) > 0 {
		n := min(len(x.waits), maxPiece)
		if x.Send(x.waits[:n]) != api.OK {
			break
		}
		x.waits = x.waits[n:]
	}
	return x.Boxes()[old:]
}

// messages gives boxes as messages of the session.
func (x *session) messages(boxes [][]byte) []api.Krb {
	var list []api.Krb
	for _, box := range boxes {
		list = append(list, api.Krb{Kind: api.KrbData, Nonce: x.did.Nonce, Sealed: box})
	}
	return list
}

// put puts something out on a channel; what that doesn't take at once is lost.
func (x *session) put(channel int, data []byte) { x.Write(channel, data) }

// finish tells the exit's number, and is done.
func (x *session) finish(code int) { x.exit(strconv.Itoa(code)) }

// fail tells an error's number, and is done.
func (x *session) fail(e api.Errno) { x.exit("error " + strconv.Itoa(int(e))) }

// exit puts out what is said at the exit, and is done.
func (x *session) exit(told string) {
	x.put(api.ChanExit, []byte(told))
	for _, channel := range ownChannels() {
		x.Close(channel)
	}
	x.takes = nil
}

// ownChannels gives the channels that the server writes to.
func ownChannels() [3]int { return [...]int{api.ChanOut, api.ChanErr, api.ChanExit} }

package server

import (
	"strconv"

	"gangway/api"
	"gangway/link"
	"gangway/seal"
)

const ownSide = 1 // of a pipe

// session is what goes on with who came, over a pipe and its channels.
type session struct {
	*link.Link // nil, once it is over
	did        api.Served
	asked      []byte             // the message by which it came
	answer     api.Krb            // what that was answered
	host       int                // that it came from
	end        int64              // of its ticket
	takes      func(typed []byte) // what it runs, which is handed what comes on ChanIn; nil, once it is done
	idle       int                // ticks since something of its came
}

// newSession gives a session over which nothing went.
func newSession(s *seal.Sealer, known api.Session) *session {
	return &session{
		Link: link.New(s, known.Key, known.Nonce, ownSide), end: known.End,
		did: api.Served{Key: known.Key, Client: known.Client, Nonce: known.Nonce},
	}
}

// drop ends a session: only what it did is kept.
func (x *session) drop() {
	*x = session{did: x.did}
	x.did.Over = true
}

// isOver tells whether a session has come to its end: when it is done it ends its channels, and each end goes behind all that was written to the channel.
func (x *session) isOver(now int64) bool {
	return x.IsHeard(len(ownChannels())) || x.idle >= api.MaxIdle || now > x.end+api.Skew
}

// goOn takes all that has come on ChanIn; what comes for one that is done is read, too, and lost.
func (x *session) goOn() {
	typed := x.Read(api.ChanIn, api.MaxCredit)
	if x.takes != nil {
		x.takes(typed)
	}
}

// put puts something out on a channel; what that doesn't take at once is lost.
func (x *session) put(channel int, data []byte) { x.Write(channel, data) }

// finish tells the exit's number, and is done.
func (x *session) finish(code int) { x.exit(strconv.Itoa(code)) }

// fail tells an error's number, and is done.
func (x *session) fail(e api.Errno) { x.exit("error " + strconv.Itoa(int(e))) }

// exit puts out what is said at the exit, and is done.
func (x *session) exit(told string) {
	x.put(api.ChanExit, []byte(told))
	for _, channel := range ownChannels() {
		x.Close(channel)
	}
	x.takes = nil
}

// ownChannels gives the channels that the server writes to.
func ownChannels() [3]int { return [...]int{api.ChanOut, api.ChanErr, api.ChanExit} }

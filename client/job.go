package client

import (
	"strconv"
	"strings"

	"gangway/api"
	"gangway/krb"
	"gangway/link"
	"gangway/seal"
)

const (
	ownSide  = 0   // of a pipe
	maxTyped = 512 // bytes that are handed to a channel at a time: so few that it has always more than may go at once
)

// job is what goes on with a want, over a pipe and its channels, once its session is there.
type job struct {
	*link.Link // nil, as long as there is no session
	got        api.Got
	host       int       // of which it is wanted
	says       []byte    // what is to be said on ChanIn, and hasn't been handed to that yet
	exit       []byte    // what has come on ChanExit
	ticks      int       // since it was wanted
	refused    int       // what the last KrbError of its told, or ErrClosed
	nonces     []uint64  // of all its questions, and comings
	asked      *question // its last one; nil, if there was none
	call       *api.Call // its last coming; nil, if there was none
	sent       letter    // what was sent last
}

// question is what is remembered of one, for the answer.
type question struct {
	nonce  uint64
	server string  // for which a ticket is asked for
	key    api.Key // under which the answer's grant is sealed
}

// letter is a mail that may be sent once more: of which kind its message is, and when it was made.
type letter struct {
	kind int
	at   int64
	mail api.Mail
}

// newJob gives a job for which nothing was sent.
func newJob(w api.Want, host int, says []byte) *job {
	return &job{got: api.Got{Want: apartWant(w)}, host: host, says: says, refused: int(api.ErrClosed)}
}

// begin lets the session be there.
func (j *job) begin(s *seal.Sealer, known api.Session) {
	j.Link = link.New(s, known.Key, known.Nonce, ownSide)
	j.got.Key, j.got.Nonce, j.got.Confirmed = known.Key, known.Nonce, true
	j.got.Sent = j.got.Want.Lines
}

// say lets go what may go of all that is said, and gives the boxes that are new.
func (j *job) say() [][]byte {
	j.fill()
	return j.Say()
}

// fill hands to ChanIn as much as that takes of what is to be said, and its end behind it.
func (j *job) fill() {
	for len(j.says) > 0 {
		n := min(len(j.says), maxTyped)
		if j.Write(api.ChanIn, j.says[:n]) != api.OK {
			return
		}
		j.says = j.says[n:]
	}
	j.Close(api.ChanIn) // where that was done ahead, its error changes nothing
}

// mails gives boxes as mails to the session's host.
func (j *job) mails(boxes [][]byte) []api.Mail {
	var list []api.Mail
	for _, m := range j.Messages(boxes) {
		data, _ := krb.Write(m)
		list = append(list, api.Mail{To: j.host, Data: data})
	}
	return list
}

// read takes all that has come on the channels; once all of them have ended the job is done.
func (j *job) read() {
	j.got.Out = append(j.got.Out, j.Read(api.ChanOut, api.MaxCredit)...)
	j.got.Err = append(j.got.Err, j.Read(api.ChanErr, api.MaxCredit)...)
	j.exit = append(j.exit, j.Read(api.ChanExit, api.MaxCredit)...)
	if !j.Ended(api.ChanOut) || !j.Ended(api.ChanErr) || !j.Ended(api.ChanExit) {
		return
	}
	if told, failed := strings.CutPrefix(string(j.exit), "error "); failed {
		j.end(0, number(told))
	} else {
		j.end(number(told), 0)
	}
}

// end lets a job be done: with the exit's number, or an error's. What has become of it once stays so.
func (j *job) end(code, failed int) {
	if !j.got.Done {
		j.got.Done, j.got.Code, j.got.Failed = true, code, failed
	}
}

// number gives the number that digits tell; 0, if these are none.
func number(digits string) int {
	n, e := strconv.Atoi(digits)
	if e != nil || n < 0 || strconv.Itoa(n) != digits {
		return 0
	}
	return n
}

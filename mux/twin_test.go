package mux_test

import (
	"testing"

	"gangway/api"
	"gangway/frame"
	"gangway/mux"
	"gangway/probe"
)

// line is all that went over one channel in a session, and how far each of it has come.
type line struct {
	wrote       string
	sent        int
	granted     int // beyond 1024
	closed, out bool
	came        string
	given, said int
	in          bool // the end has come
}

// twin does as a Mux does, and forgets nothing.
type twin [4]line

// write does as Write does.
func (w *twin) write(channel int, data string) api.Errno {
	if channel < 0 || channel > 3 {
		return api.ErrChannel
	}
	l := &w[channel]
	if l.closed {
		return api.ErrClosed
	}
	if len(l.wrote)+len(data)-l.sent > 4096 {
		return api.ErrFull
	}
	l.wrote += data
	return api.OK
}

// close does as Close does.
func (w *twin) close(channel int) api.Errno {
	if channel < 0 || channel > 3 {
		return api.ErrChannel
	}
	if w[channel].closed {
		return api.ErrClosed
	}
	w[channel].closed = true
	return api.OK
}

// out gives the frames that Out gives; they are sent just if send is true.
func (w *twin) out(send bool) []api.Frame {
	var frames []api.Frame
	for channel, l := range w {
		for l.sent < len(l.wrote) && l.sent < 1024+l.granted {
			n := min(l.sent+512, len(l.wrote), 1024+l.granted)
			frames = append(frames, text(channel, l.wrote[l.sent:n]))
			l.sent = n
		}
		if l.closed && !l.out && l.sent == len(l.wrote) {
			frames, l.out = append(frames, end(channel)), true
		}
		if l.given > l.said {
			frames, l.said = append(frames, credit(channel, l.given-l.said)), l.given
		}
		if send {
			w[channel] = l
		}
	}
	return frames
}

// take does as Take does.
func (w *twin) take(f api.Frame) api.Errno {
	b := f.Body
	switch {
	case f.Channel < 0 || f.Channel > 4:
		return api.ErrChannel
	case f.Channel < 4 && w[f.Channel].in:
		return api.ErrClosed
	case f.Channel < 4 && len(w[f.Channel].came)+len(b) > 1024+w[f.Channel].said:
		return api.ErrCredit
	case f.Channel < 4:
		w[f.Channel].came += string(b)
		return api.OK
	case len(b) != 4 || b[0] < 1 || b[0] > 2 || b[1] > 3 || b[0] == 2 && (b[2] != 0 || b[3] != 0):
		return api.ErrForm
	}
	l, n := &w[b[1]], int(b[2])*256+int(b[3])
	switch {
	case b[0] == 2 && l.in:
		return api.ErrClosed
	case b[0] == 2:
		l.in = true
	case l.granted+n > l.sent:
		return api.ErrCredit
	}
	l.granted += n
	return api.OK
}

// read does as Read does.
func (w *twin) read(channel, most int) string {
	if channel < 0 || channel > 3 || most <= 0 {
		return ""
	}
	l := &w[channel]
	begun := l.given
	l.given = min(begun+most, len(l.came))
	return l.came[begun:l.given]
}

// looks looks whether the two tell the same.
func (w *twin) looks(t *testing.T, m *mux.Mux) {
	t.Helper()
	if idle := len(w.out(false)) == 0; m.Idle() != idle {
		t.Fatalf("idle is %v, not %v", !idle, idle)
	}
	for channel, l := range w {
		if is := l.in && l.given == len(l.came); m.Ended(channel) != is {
			t.Fatalf("%d has ended: %v", channel, !is)
		}
	}
}

// nextFrame gives a frame for a side, right or wrong: at the edge of what may come, or a bit beyond it.
func nextFrame(d *probe.Dice, w *twin) api.Frame {
	channel := d.Roll(4)
	l := w[channel]
	switch d.Roll(20) {
	case 0:
		return end(channel)
	case 1:
		return text(4, string([]byte{byte(d.Roll(4)), byte(d.Roll(6)), 0, byte(d.Roll(2))}))
	case 2:
		return text(d.Roll(9)-2, d.Text(d.Roll(6)))
	case 3:
		return text(channel, d.Text(1024+l.said-len(l.came)+d.Roll(2)))
	case 4:
		return credit(channel, l.sent-l.granted+d.Roll(2))
	case 5, 6, 7, 8, 9:
		return credit(channel, d.Roll(max(1, l.sent-l.granted+20)))
	}
	return text(channel, d.Text(d.Roll(513)))
}

// TestLongRun: P18.1 to P18.4, many calls in no order, right and wrong ones, held against all that went.
func TestLongRun(t *testing.T) {
	met := map[[2]int]int{} // by the call and its error
	for seed := range uint64(150) {
		m, w, d := mux.New(), &twin{}, probe.NewDice(seed)
		for range 400 {
			var e, want api.Errno
			kind := d.Roll(10)
			switch channel := d.Roll(4); kind {
			case 0, 1:
				kind, channel = 1, d.Roll(24)%6-1
				data := d.Text(d.Roll(1500))
				e, want = m.Write(channel, []byte(data)), w.write(channel, data)
			case 2:
				if d.Roll(12) == 0 {
					channel = d.Roll(6) - 1
					e, want = m.Close(channel), w.close(channel)
				}
			case 3, 4:
				if got, want := m.Out(), w.out(true); !probe.SameFrames(got, want) {
					t.Fatalf("%v, not %v", told(got), told(want))
				}
			case 5, 6:
				channel, most := d.Roll(24)%6-1, d.Roll(900)-20
				reads(t, m, channel, most, w.read(channel, most))
			default:
				kind = 7
				f := nextFrame(d, w)
				e, want = m.Take(f), w.take(f)
			}
			if e != want {
				t.Fatalf("call %d: %v, not %v", kind, e, want)
			}
			if met[[2]int{kind, int(e)}]++; t.Failed() {
				t.FailNow()
			}
			w.looks(t, m)
		}
	}
	for _, row := range [][2]int{{1, 0}, {1, 2}, {1, 100}, {1, 102}, {2, 0}, {2, 100}, {2, 102}, {7, 0}, {7, 21}, {7, 100}, {7, 101}, {7, 102}} {
		if met[row] < 50 {
			t.Errorf("call %d was answered by %d just %d times", row[0], row[1], met[row])
		}
	}
}

// host is one side of a session: what it wrote and read, and the stream that goes to the other one.
type host struct {
	m           *mux.Mux
	reader      *frame.Reader
	wrote, read [4]string
	closed      [4]bool
	stream      []byte // that hasn't come yet
}

// newHost gives a side over which nothing went.
func newHost() *host { return &host{m: mux.New(), reader: frame.NewReader()} }

// says lets all that may be sent now go.
func (h *host) says(t *testing.T) {
	t.Helper()
	for _, f := range h.m.Out() {
		data, e := frame.Write(f)
		if e != api.OK {
			t.Fatalf("%+v: %v", f, e)
		}
		h.stream = append(h.stream, data...)
	}
}

// hears takes the next bytes of what the other side has sent, n at most.
func (h *host) hears(t *testing.T, other *host, n int) {
	t.Helper()
	n = min(n, len(other.stream))
	frames, e := h.reader.Feed(other.stream[:n])
	if e != api.OK {
		t.Fatal(e)
	}
	other.stream = other.stream[n:]
	for _, f := range frames {
		if takes(t, h.m, f, api.OK); t.Failed() {
			t.FailNow()
		}
	}
}

// reads reads of a channel, and looks whether it is what the other side wrote next.
func (h *host) reads(t *testing.T, other *host, channel, most int) {
	t.Helper()
	h.read[channel] += string(h.m.Read(channel, most))
	if n := len(h.read[channel]); n > len(other.wrote[channel]) || h.read[channel] != other.wrote[channel][:n] {
		t.Fatalf("%d: what was read isn't what was written", channel)
	}
	if h.m.Ended(channel) && (!other.closed[channel] || h.read[channel] != other.wrote[channel]) {
		t.Fatalf("%d has ended ahead of its end", channel)
	}
}

// does does something, in no order.
func (h *host) does(t *testing.T, other *host, d *probe.Dice) {
	t.Helper()
	channel := d.Roll(4)
	switch d.Roll(12) {
	case 0, 1, 2:
		data := d.Text(d.Roll(2000))
		if h.m.Write(channel, []byte(data)) == api.OK {
			h.wrote[channel] += data
		}
	case 3, 4, 5:
		h.says(t)
	case 6, 7:
		h.reads(t, other, channel, 1+d.Roll(700))
	case 8:
		if d.Roll(10) == 0 && h.m.Close(channel) == api.OK {
			h.closed[channel] = true
		}
	default:
		h.hears(t, other, 1+d.Roll(1200))
	}
}

// ends lets all come, and looks whether just that does, with the ends of what was closed.
func ends(t *testing.T, one, two *host) {
	t.Helper()
	for range 40 { // with each turn 1024 bytes of those that waited may come, and they are 4096 at most
		for _, pair := range [][2]*host{{one, two}, {two, one}} {
			pair[0].says(t)
			pair[1].hears(t, pair[0], len(pair[0].stream))
			for channel := range 4 {
				pair[1].reads(t, pair[0], channel, 1<<30)
			}
		}
	}
	for _, pair := range [][2]*host{{one, two}, {two, one}} {
		for channel := range 4 {
			if pair[1].read[channel] != pair[0].wrote[channel] || pair[1].m.Ended(channel) != pair[0].closed[channel] {
				t.Fatalf("%d: %d bytes of %d, and the end is %v", channel, len(pair[1].read[channel]), len(pair[0].wrote[channel]), pair[1].m.Ended(channel))
			}
		}
		outs(t, pair[0].m)
	}
}

// TestBothSides: P18.5, between two sides, whatever both do and however their stream is cut, no frame is refused, what is read is what was written, and in the end it all comes.
func TestBothSides(t *testing.T) {
	read, closed := 0, 0
	for seed := range uint64(150) {
		one, two, d := newHost(), newHost(), probe.NewDice(seed+1000)
		for range 3 {
			for range 200 {
				one.does(t, two, d)
				two.does(t, one, d)
			}
			ends(t, one, two)
		}
		for channel := range 4 {
			read += len(two.read[channel])
			if one.closed[channel] {
				closed++
			}
		}
	}
	if read < 1<<20 || closed < 100 || closed > 500 {
		t.Errorf("%d bytes, %d were closed", read, closed)
	}
}

// TestBothSidesCredit: P18.5, a channel that nobody reads doesn't hold up the others, and its bytes come once somebody does.
func TestBothSidesCredit(t *testing.T) {
	one, two := newHost(), newHost()
	for channel := range 4 {
		one.wrote[channel] = string(probe.Bytes(uint64(channel), 4096))
		if e := one.m.Write(channel, []byte(one.wrote[channel])); e != api.OK {
			t.Fatal(e)
		}
		closes(t, one.m, channel, api.OK)
		one.closed[channel] = true
	}
	for range 10 {
		one.says(t)
		two.hears(t, one, len(one.stream))
		for channel := range 3 {
			two.reads(t, one, channel, 1<<30)
		}
		two.says(t)
		one.hears(t, two, len(two.stream))
	}
	ended(t, two.m, true, true, true, false)
	two.reads(t, one, 3, 1<<30)
	if len(two.read[3]) != 1024 {
		t.Errorf("%d bytes have come", len(two.read[3]))
	}
	ends(t, one, two)
	ended(t, two.m, true, true, true, true)
	ended(t, one.m, false, false, false, false)
}

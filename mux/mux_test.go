package mux_test

import (
	"bytes"
	"math"
	"reflect"
	"strings"
	"testing"

	"gangway/api"
	"gangway/mux"
	"gangway/probe"
)

// noChannels are numbers of channels that there aren't; some would be one, if a byte of theirs were taken alone.
var noChannels = []int{-1, 4, 5, 6, 255, 256, 257, 259, -4, -255, -256, 1 << 32, 1<<32 + 1, math.MaxInt, math.MinInt, math.MinInt + 1}

// data gives a frame of a channel with so many bytes.
func data(channel, n int) api.Frame { return text(channel, strings.Repeat("x", n)) }

// text gives a frame of a channel.
func text(channel int, body string) api.Frame { return api.Frame{Channel: channel, Body: []byte(body)} }

// credit gives the control frame of a credit.
func credit(channel, n int) api.Frame {
	return api.Frame{Channel: 4, Body: []byte{1, byte(channel), byte(n / 256), byte(n % 256)}}
}

// end gives the control frame of an end.
func end(channel int) api.Frame {
	return api.Frame{Channel: 4, Body: []byte{2, byte(channel), 0, 0}}
}

// writes looks whether Write answers this to so many bytes.
func writes(t *testing.T, m *mux.Mux, channel, n int, want api.Errno) {
	t.Helper()
	if e := m.Write(channel, bytes.Repeat([]byte("x"), n)); e != want {
		t.Errorf("%d, %d bytes: %v, not %v", channel, n, e, want)
	}
}

// closes looks whether Close answers this.
func closes(t *testing.T, m *mux.Mux, channel int, want api.Errno) {
	t.Helper()
	if e := m.Close(channel); e != want {
		t.Errorf("%d: %v, not %v", channel, e, want)
	}
}

// takes looks whether Take answers this.
func takes(t *testing.T, m *mux.Mux, f api.Frame, want api.Errno) {
	t.Helper()
	if e := m.Take(f); e != want {
		t.Errorf("%d, %.80q, %d bytes: %v, not %v", f.Channel, f.Body, len(f.Body), e, want)
	}
}

// reads looks whether Read gives this.
func reads(t *testing.T, m *mux.Mux, channel, most int, want string) {
	t.Helper()
	if got := m.Read(channel, most); string(got) != want {
		t.Errorf("%d, %d at most: %.80q, %d bytes, not %.80q, %d bytes", channel, most, got, len(got), want, len(want))
	}
}

// outs looks whether Out gives just these frames, once, and whether Idle tells that ahead of it and behind it.
func outs(t *testing.T, m *mux.Mux, want ...api.Frame) {
	t.Helper()
	if idle := m.Idle(); idle != (len(want) == 0) {
		t.Errorf("idle is %v ahead of %d frames", idle, len(want))
	}
	if got := m.Out(); !probe.SameFrames(got, want) {
		t.Errorf("%v, not %v", told(got), told(want))
	}
	if got := m.Out(); len(got) != 0 || !m.Idle() {
		t.Errorf("%v once more, idle is %v", told(got), m.Idle())
	}
}

// told gives frames as short texts.
func told(frames []api.Frame) [][2]any {
	var list [][2]any
	for _, f := range frames {
		if f.Channel == 4 {
			list = append(list, [2]any{f.Channel, f.Body})
		} else {
			list = append(list, [2]any{f.Channel, len(f.Body)})
		}
	}
	return list
}

// ended looks which channels have ended.
func ended(t *testing.T, m *mux.Mux, want ...bool) {
	t.Helper()
	for channel, is := range want {
		if got := m.Ended(channel); got != is {
			t.Errorf("%d has ended: %v", channel, got)
		}
	}
}

// TestNew: P18.1, over a new one nothing went; 1024 bytes may be sent and may come over each channel.
func TestNew(t *testing.T) {
	m := mux.New()
	outs(t, m)
	ended(t, m, false, false, false, false)
	for channel := range 4 {
		reads(t, m, channel, math.MaxInt, "")
	}
	outs(t, m)
	for channel := range 4 {
		takes(t, m, credit(channel, 1), api.ErrCredit)
		takes(t, m, data(channel, 1025), api.ErrCredit)
		takes(t, m, data(channel, 1024), api.OK)
		takes(t, m, data(channel, 1), api.ErrCredit)
		writes(t, m, channel, 1025, api.OK)
		outs(t, m, data(channel, 512), data(channel, 512))
	}
}

// TestExample: the chapter's example.
func TestExample(t *testing.T) {
	m, other := mux.New(), mux.New()
	writes(t, m, 0, 1500, api.OK)
	outs(t, m, data(0, 512), data(0, 512))
	takes(t, other, data(0, 512), api.OK)
	takes(t, other, data(0, 512), api.OK)
	reads(t, other, 0, 2000, strings.Repeat("x", 1024))
	outs(t, other, credit(0, 1024))
	takes(t, m, credit(0, 1024), api.OK)
	outs(t, m, data(0, 476))
}

// TestWrite: P18.1, up to 4096 bytes wait, in whatever pieces they are written; with an error none of them does.
func TestWrite(t *testing.T) {
	for channel := range 4 {
		for ahead := range 20 {
			m, n := mux.New(), 256*ahead
			writes(t, m, channel, min(n, 4096), api.OK)
			if n > 4096 {
				writes(t, m, channel, n-4096, api.ErrFull)
				n = 4096
			}
			writes(t, m, channel, 4097-n, api.ErrFull)
			writes(t, m, channel, 4097, api.ErrFull)
			writes(t, m, channel, 1<<20, api.ErrFull)
			writes(t, m, channel, 4096-n, api.OK)
			writes(t, m, channel, 0, api.OK)
			writes(t, m, channel, 1, api.ErrFull)
			writes(t, m, (channel+1)%4, 4096, api.OK) // each channel has room of its own
		}
	}
}

// TestWriteBehindOut: P18.1, what was sent waits no more: there is room for as many.
func TestWriteBehindOut(t *testing.T) {
	m := mux.New()
	writes(t, m, 2, 4096, api.OK)
	outs(t, m, data(2, 512), data(2, 512))
	writes(t, m, 2, 1025, api.ErrFull)
	writes(t, m, 2, 1024, api.OK)
	writes(t, m, 2, 1, api.ErrFull)
	outs(t, m) // there is no credit
	takes(t, m, credit(2, 5), api.OK)
	writes(t, m, 2, 1, api.ErrFull)
	outs(t, m, data(2, 5))
	writes(t, m, 2, 6, api.ErrFull)
	writes(t, m, 2, 5, api.OK)
}

// TestWriteInOrder: P18.1 and P18.2, data wait behind the others, and are sent in this order, with no bounds between.
func TestWriteInOrder(t *testing.T) {
	all := string(probe.Bytes(18, 4096))
	for _, piece := range []int{1, 7, 100, 511, 512, 513, 4096} {
		m := mux.New()
		for begun := 0; begun < len(all); begun += piece {
			if e := m.Write(1, []byte(all[begun:min(begun+piece, len(all))])); e != api.OK {
				t.Fatalf("%d: %v", begun, e)
			}
		}
		var came string
		for range 4 {
			n := len(came)
			outs(t, m, text(1, all[n:n+512]), text(1, all[n+512:n+1024]))
			takes(t, m, credit(1, 1024), api.OK)
			came += all[n : n+1024]
		}
		outs(t, m)
	}
}

// TestWriteWrong: P18.1, other channels, and then those that are closed, whatever is written, and then too many bytes.
func TestWriteWrong(t *testing.T) {
	m := mux.New()
	closes(t, m, 1, api.OK)
	for _, n := range []int{0, 1, 4096, 4097, 1 << 20} {
		for _, channel := range noChannels {
			writes(t, m, channel, n, api.ErrChannel)
		}
		writes(t, m, 1, n, api.ErrClosed)
	}
	outs(t, m, end(1))
	writes(t, m, 1, 0, api.ErrClosed)
	outs(t, m)
	m = mux.New()
	writes(t, m, 3, 4096, api.OK)
	closes(t, m, 3, api.OK)
	writes(t, m, 3, 1, api.ErrClosed) // told ahead of ErrFull
	writes(t, m, 3, 0, api.ErrClosed)
	outs(t, m, data(3, 512), data(3, 512))
}

// TestClose: P18.1, once each; other channels aren't closed by it.
func TestClose(t *testing.T) {
	for channel := range 4 {
		m := mux.New()
		closes(t, m, channel, api.OK)
		closes(t, m, channel, api.ErrClosed)
		outs(t, m, end(channel))
		closes(t, m, channel, api.ErrClosed)
		outs(t, m)
		for other := range 4 {
			if other != channel {
				writes(t, m, other, 1, api.OK)
				outs(t, m, data(other, 1))
				closes(t, m, other, api.OK)
				outs(t, m, end(other))
			}
		}
	}
	m := mux.New()
	for _, channel := range noChannels {
		closes(t, m, channel, api.ErrChannel)
		closes(t, m, channel, api.ErrChannel)
	}
	outs(t, m)
}

// TestCloseIsOneSide: P18.1, what is closed here may come still, and what has ended may be written to.
func TestCloseIsOneSide(t *testing.T) {
	m := mux.New()
	closes(t, m, 0, api.OK)
	outs(t, m, end(0))
	takes(t, m, text(0, "come"), api.OK)
	takes(t, m, end(0), api.OK)
	reads(t, m, 0, 9, "come")
	outs(t, m, credit(0, 4)) // also of a channel that has ended what was read is told
	takes(t, m, end(1), api.OK)
	writes(t, m, 1, 3, api.OK)
	closes(t, m, 1, api.OK)
	outs(t, m, data(1, 3), end(1))
}

// TestOutSizes: P18.2, frames of the first bytes, each of as many as there are, as there is credit for, and as a frame may have.
func TestOutSizes(t *testing.T) {
	sizes := []int{0, 1, 2, 255, 256, 511, 512, 513, 1000, 1023, 1024}
	for _, left := range sizes {
		for _, n := range append(sizes, 1025, 1536, 2000, 4096) {
			m := mux.New()
			var spent []api.Frame
			for spend := 1024 - left; spend > 0; spend -= 512 {
				spent = append(spent, data(0, min(spend, 512)))
			}
			writes(t, m, 0, 1024-left, api.OK)
			outs(t, m, spent...)
			all := string(probe.Bytes(uint64(n), n))
			if e := m.Write(0, []byte(all)); e != api.OK {
				t.Fatal(e)
			}
			var want []api.Frame
			first := min(n, left, 512)
			second := min(n, left) - first
			if first > 0 {
				want = append(want, text(0, all[:first]))
			}
			if second > 0 {
				want = append(want, text(0, all[first:first+second]))
			}
			outs(t, m, want...)
			takes(t, m, credit(0, 1024-left+first+second), api.OK)
			takes(t, m, credit(0, 1), api.ErrCredit) // just those that were sent are missing
		}
	}
}

// TestOutOrder: P18.2, channel by channel, whatever was done first; of each one its bytes, its end, and what was read.
func TestOutOrder(t *testing.T) {
	m := mux.New()
	for _, channel := range []int{2, 0, 3, 1} {
		takes(t, m, data(channel, 10+channel), api.OK)
		reads(t, m, channel, 9+channel, strings.Repeat("x", 9+channel))
		closesBehind(t, m, channel, 600+channel)
	}
	outs(t, m,
		data(0, 512), data(0, 88), end(0), credit(0, 9), data(1, 512), data(1, 89), end(1), credit(1, 10),
		data(2, 512), data(2, 90), end(2), credit(2, 11), data(3, 512), data(3, 91), end(3), credit(3, 12))
	m = mux.New()
	for _, channel := range []int{3, 1} {
		writes(t, m, channel, 1, api.OK)
	}
	closes(t, m, 2, api.OK)
	takes(t, m, data(0, 300), api.OK)
	reads(t, m, 0, 299, strings.Repeat("x", 299))
	outs(t, m, credit(0, 299), data(1, 1), end(2), data(3, 1))
}

// closesBehind closes a channel behind so many bytes.
func closesBehind(t *testing.T, m *mux.Mux, channel, n int) {
	t.Helper()
	writes(t, m, channel, n, api.OK)
	closes(t, m, channel, api.OK)
}

// TestOutEnd: P18.2, the end is told once, with the last bytes, and not as long as bytes wait.
func TestOutEnd(t *testing.T) {
	for channel := range 4 {
		m := mux.New()
		closesBehind(t, m, channel, 1024)
		outs(t, m, data(channel, 512), data(channel, 512), end(channel))
		m = mux.New()
		closesBehind(t, m, channel, 1025)
		outs(t, m, data(channel, 512), data(channel, 512))
		outs(t, m)
		takes(t, m, credit(channel, 0), api.OK)
		outs(t, m)
		takes(t, m, credit(channel, 1024), api.OK)
		outs(t, m, data(channel, 1), end(channel))
		takes(t, m, credit(channel, 1), api.OK)
		outs(t, m)
	}
	m := mux.New()
	writes(t, m, 0, 5, api.OK)
	outs(t, m, data(0, 5)) // it isn't closed
	closes(t, m, 0, api.OK)
	outs(t, m, end(0))
}

// TestOutCredit: P18.2, what was read is told once, all in one; what wasn't read isn't told.
func TestOutCredit(t *testing.T) {
	for channel := range 4 {
		m := mux.New()
		takes(t, m, data(channel, 1000), api.OK)
		outs(t, m)
		for _, n := range []int{0, 1, 254, 1, 0, 300} {
			reads(t, m, channel, n, strings.Repeat("x", n))
		}
		outs(t, m, credit(channel, 556))
		reads(t, m, channel, 400, strings.Repeat("x", 400))
		outs(t, m, credit(channel, 400))
		reads(t, m, channel, 400, strings.Repeat("x", 44))
		reads(t, m, channel, 400, "")
		outs(t, m, credit(channel, 44))
	}
	for n := 1; n <= 1024; n++ {
		m := mux.New()
		takes(t, m, data(3, n), api.OK)
		reads(t, m, 3, math.MaxInt, strings.Repeat("x", n))
		outs(t, m, credit(3, n))
	}
}

// TestRoom: P18.2 and P18.3, the room is less by what came, and more by what was told; what was read alone makes none.
func TestRoom(t *testing.T) {
	for channel := range 4 {
		m := mux.New()
		takes(t, m, data(channel, 1000), api.OK)
		takes(t, m, data(channel, 25), api.ErrCredit)
		reads(t, m, channel, 100, strings.Repeat("x", 100))
		takes(t, m, data(channel, 25), api.ErrCredit)
		outs(t, m, credit(channel, 100))
		takes(t, m, data(channel, 125), api.ErrCredit)
		takes(t, m, data(channel, 124), api.OK)
		takes(t, m, data(channel, 1), api.ErrCredit)
		takes(t, m, data(channel, 0), api.OK)
		takes(t, m, data((channel+1)%4, 1024), api.OK) // each channel has room of its own
		reads(t, m, channel, 2000, strings.Repeat("x", 1024))
		outs(t, m, credit(channel, 1024))
		takes(t, m, data(channel, 1025), api.ErrCredit)
		takes(t, m, data(channel, 1024), api.OK)
	}
}

// TestTakeCredit: P18.3, up to 1024 in all, of each channel by itself; with an error it is as it was.
func TestTakeCredit(t *testing.T) {
	for channel := range 4 {
		for _, spent := range []int{0, 1, 255, 256, 512, 1023, 1024} {
			for _, n := range []int{0, 1, 2, 254, 255, 256, 257, 511, 512, 1022, 1023, 1024, 1025, 4096, 65535 - 1024, 65535} {
				m := mux.New()
				writes(t, m, channel, spent, api.OK)
				m.Out()
				writes(t, m, (channel+1)%4, 1024, api.OK)
				m.Out()
				if n > spent {
					takes(t, m, credit(channel, n), api.ErrCredit)
					n = 0
				} else {
					takes(t, m, credit(channel, n), api.OK)
				}
				takes(t, m, credit(channel, spent-n+1), api.ErrCredit)
				takes(t, m, credit(channel, spent-n), api.OK)
			}
		}
	}
}

// TestTakeCreditClosed: P18.3, a credit of a channel that is closed, or has ended, is one like others.
func TestTakeCreditClosed(t *testing.T) {
	m := mux.New()
	closesBehind(t, m, 0, 1030)
	takes(t, m, end(0), api.OK)
	outs(t, m, data(0, 512), data(0, 512))
	takes(t, m, credit(0, 1024), api.OK)
	outs(t, m, data(0, 6), end(0))
	takes(t, m, credit(0, 7), api.ErrCredit)
	takes(t, m, credit(0, 6), api.OK)
	takes(t, m, credit(0, 1), api.ErrCredit)
}

// TestTakeControl: P18.3, all control frames of bytes at the edges; what isn't as it must be changes nothing.
func TestTakeControl(t *testing.T) {
	edges := []byte{0, 1, 2, 3, 4, 5, 127, 128, 255}
	for _, kind := range edges {
		for _, channel := range edges {
			for _, high := range edges {
				for _, low := range edges {
					m := mux.New()
					want := api.ErrForm
					switch {
					case channel > 3:
					case kind == 1 && high+low == 0 && high == 0:
						want = api.OK
					case kind == 1:
						want = api.ErrCredit
					case kind == 2 && high == 0 && low == 0:
						want = api.OK
					}
					takes(t, m, text(4, string([]byte{kind, channel, high, low})), want)
					for c := range 4 {
						if is := want == api.OK && kind == 2 && int(channel) == c; m.Ended(c) != is {
							t.Errorf("%d %d %d %d: %d has ended: %v", kind, channel, high, low, c, !is)
						}
					}
					outs(t, m)
				}
			}
		}
	}
	m := mux.New()
	for _, body := range []string{
		"", "\x01", "\x02", "\x01\x00", "\x02\x01", "\x01\x00\x00", "\x02\x00\x00", "\x01\x00\x00\x00\x00", "\x02\x00\x00\x00\x00", "\x02\x01\x00\x00\x02\x02\x00\x00",
		strings.Repeat("\x02", 512), strings.Repeat("\x00", 513),
	} {
		takes(t, m, text(4, body), api.ErrForm)
	}
	outs(t, m)
	ended(t, m, false, false, false, false)
}

// TestTakeEnd: P18.3, an end comes once; behind it there is ErrClosed ahead of ErrCredit, but for what isn't as it must be.
func TestTakeEnd(t *testing.T) {
	for channel := range 4 {
		m := mux.New()
		takes(t, m, text(channel, "abc"), api.OK)
		takes(t, m, end(channel), api.OK)
		for range 2 {
			takes(t, m, end(channel), api.ErrClosed)
			for _, n := range []int{0, 1, 512, 1021, 1022, 4096} {
				takes(t, m, data(channel, n), api.ErrClosed)
			}
			takes(t, m, text(4, string([]byte{2, byte(channel), 0, 1})), api.ErrForm)
		}
		reads(t, m, channel, 9, "abc")
		outs(t, m, credit(channel, 3))
		takes(t, m, data(channel, 1), api.ErrClosed)
		takes(t, m, end((channel+1)%4), api.OK)
		takes(t, m, data((channel+2)%4, 1), api.OK)
	}
}

// TestTakeData: P18.3, bytes come behind the others, as many as there is room for, in whatever frames; with ErrCredit none of them comes.
func TestTakeData(t *testing.T) {
	for channel := range 4 {
		m := mux.New()
		takes(t, m, text(channel, "ab"), api.OK)
		takes(t, m, text(channel, ""), api.OK)
		takes(t, m, text(channel, strings.Repeat("y", 1023)), api.ErrCredit)
		takes(t, m, text(channel, "cd"), api.OK)
		takes(t, m, text(channel, strings.Repeat("z", 1020)), api.OK) // more than a frame has that is read from a stream
		takes(t, m, text(channel, "e"), api.ErrCredit)
		for other := range 4 {
			if other != channel {
				reads(t, m, other, 9, "")
			}
		}
		reads(t, m, channel, 3, "abc")
		reads(t, m, channel, 5000, "d"+strings.Repeat("z", 1020))
		outs(t, m, credit(channel, 1024))
	}
}

// TestTakeOthers: P18.3, frames of other channels, whatever is in them.
func TestTakeOthers(t *testing.T) {
	m := mux.New()
	for _, channel := range noChannels {
		if channel == 4 {
			continue
		}
		for _, f := range []api.Frame{data(channel, 0), data(channel, 1), data(channel, 5000), text(channel, "\x02\x00\x00\x00"), text(channel, "\x01\x00\xff\xff")} {
			takes(t, m, f, api.ErrChannel)
		}
	}
	outs(t, m)
	ended(t, m, false, false, false, false)
	for channel := range 4 {
		reads(t, m, channel, 9, "")
	}
}

// TestRead: P18.4, the first bytes, once, as many as there are and as are asked for; none, if none are, or there is no such channel.
func TestRead(t *testing.T) {
	for channel := range 4 {
		m := mux.New()
		takes(t, m, text(channel, "abcdefghij"), api.OK)
		for _, most := range []int{0, -1, -10, math.MinInt, math.MinInt + 1} {
			reads(t, m, channel, most, "")
		}
		for _, other := range append(noChannels, (channel+1)%4) {
			for _, most := range []int{1, 10, math.MaxInt, 0, -1} {
				reads(t, m, other, most, "")
			}
		}
		outs(t, m)
		reads(t, m, channel, 1, "a")
		reads(t, m, channel, 2, "bc")
		takes(t, m, text(channel, "kl"), api.OK)
		reads(t, m, channel, 7, "defghij")
		reads(t, m, channel, 2, "kl")
		reads(t, m, channel, 1, "")
		takes(t, m, text(channel, "mno"), api.OK)
		reads(t, m, channel, math.MaxInt, "mno")
		outs(t, m, credit(channel, 15))
	}
}

// TestEnded: P18.4, once the end has come and all is read, and from then on; other channels, and those that there aren't, have not.
func TestEnded(t *testing.T) {
	for channel := range 4 {
		m := mux.New()
		for _, other := range noChannels {
			if m.Ended(other) {
				t.Errorf("%d has ended", other)
			}
		}
		takes(t, m, text(channel, "ab"), api.OK)
		reads(t, m, channel, 2, "ab")
		ended(t, m, false, false, false, false)
		takes(t, m, text(channel, "cd"), api.OK)
		takes(t, m, end(channel), api.OK)
		ended(t, m, false, false, false, false)
		reads(t, m, channel, 1, "c")
		ended(t, m, false, false, false, false)
		reads(t, m, channel, 1, "d")
		want := make([]bool, 4)
		want[channel] = true
		ended(t, m, want...)
		outs(t, m, credit(channel, 4))
		ended(t, m, want...)
		for _, other := range noChannels {
			takes(t, m, text(4, string([]byte{2, byte(4 + channel), 0, 0})), api.ErrForm)
			if m.Ended(other) {
				t.Errorf("%d has ended", other)
			}
		}
	}
	m := mux.New()
	takes(t, m, end(2), api.OK)
	ended(t, m, false, false, true, false)
	closes(t, m, 1, api.OK) // what is closed here doesn't end here
	outs(t, m, end(1))
	ended(t, m, false, false, true, false)
}

// TestIdle: P18.4, it tells of each channel whether there is something to be sent, and sends none of it.
func TestIdle(t *testing.T) {
	for channel := range 4 {
		for _, do := range []struct {
			name string
			do   func(*mux.Mux)
			want api.Frame
		}{
			{"write", func(m *mux.Mux) { m.Write(channel, []byte("x")) }, data(channel, 1)},
			{"close", func(m *mux.Mux) { m.Close(channel) }, end(channel)},
			{"read", func(m *mux.Mux) { m.Take(data(channel, 1)); m.Read(channel, 1) }, credit(channel, 1)},
		} {
			m := mux.New()
			do.do(m)
			for range 3 {
				if m.Idle() {
					t.Errorf("%d, %s: idle", channel, do.name)
				}
			}
			outs(t, m, do.want)
		}
		m := mux.New()
		closesBehind(t, m, channel, 1100)
		m.Out()
		for range 3 {
			if !m.Idle() {
				t.Errorf("%d: not idle without credit", channel)
			}
		}
		takes(t, m, credit(channel, 76), api.OK)
		outs(t, m, data(channel, 76), end(channel))
	}
}

// TestApart: rule 6, what is done to one isn't seen in another.
func TestApart(t *testing.T) {
	one, two := mux.New(), mux.New()
	closesBehind(t, one, 0, 5)
	takes(t, one, data(1, 1024), api.OK)
	takes(t, one, end(1), api.OK)
	outs(t, two)
	reads(t, two, 1, 9, "")
	takes(t, two, text(1, "two"), api.OK)
	writes(t, two, 0, 4096, api.OK)
	outs(t, one, data(0, 5), end(0))
	ended(t, two, false, false, false, false)
	reads(t, two, 1, 9, "two")
}

// TestNothingIsKept: P18.6, what is handed in isn't written to, and may be written over behind the call.
func TestNothingIsKept(t *testing.T) {
	m := mux.New()
	for range 2 { // the second one comes behind the first
		for channel := range 4 {
			handed, all := probe.Roomy("abc")
			m.Write(channel, handed)
			takes(t, m, api.Frame{Channel: channel, Body: handed}, api.OK)
			if string(all) != "abc"+probe.Spare {
				t.Errorf("%q", all)
			}
			probe.Spoil(handed)
		}
	}
	f := end(0)
	handed, all := probe.Roomy(string(f.Body))
	takes(t, m, api.Frame{Channel: 4, Body: handed}, api.OK)
	if string(all) != string(f.Body)+probe.Spare {
		t.Errorf("%q", all)
	}
	outs(t, m, text(0, "abcabc"), text(1, "abcabc"), text(2, "abcabc"), text(3, "abcabc"))
	for channel := range 4 {
		reads(t, m, channel, 9, "abcabc")
	}
}

// TestAnswersAreNew: P18.6, answers may be written over, and their spare room; neither the channels nor another answer have it.
func TestAnswersAreNew(t *testing.T) {
	m, all := mux.New(), string(probe.Bytes(1, 1024))
	for turn := range 3 {
		for channel := range 4 {
			if e := m.Write(channel, []byte(all)); e != api.OK {
				t.Fatal(e)
			}
			takes(t, m, text(channel, all), api.OK)
			for n, piece := range []string{all[:100], all[100:700], all[700:]} {
				got := m.Read(channel, len(piece))
				if string(got) != piece {
					t.Errorf("turn %d, channel %d, piece %d: %.80q", turn, channel, n, got)
				}
				probe.Spoil(got)
			}
		}
		frames := m.Out()
		for channel := range 4 {
			want := []api.Frame{text(channel, all[:512]), text(channel, all[512:]), credit(channel, 1024)}
			for i, f := range frames[3*channel : 3*channel+3] {
				if !probe.SameFrames([]api.Frame{f}, want[i:i+1]) {
					t.Errorf("turn %d, channel %d: %d, %.80q", turn, f.Channel, i, f.Body)
				}
				probe.Spoil(f.Body)
			}
			takes(t, m, want[2], api.OK)
		}
		clear(frames[:cap(frames)])
	}
	writes(t, m, 0, 4, api.OK)
	first := m.Out()
	writes(t, m, 0, 4, api.OK)
	second := m.Out()
	probe.Spoil(first[0].Body)
	clear(first[:cap(first)])
	if !probe.SameFrames(second, []api.Frame{data(0, 4)}) {
		t.Errorf("answers share memory: %v", second)
	}
}

// TestAnyArguments: P1 and P2, each call ends, without a panic, and answers the same in a second run.
func TestAnyArguments(t *testing.T) {
	numbers := append([]int{0, 1, 2, 3, 1024}, noChannels...)
	answers := func(s string) []any {
		m := mux.New()
		var out []any
		for i := range len(s) {
			n, other := numbers[int(s[i])*7%len(numbers)], numbers[(int(s[i])+i)%len(numbers)]
			out = append(out, m.Write(n, []byte(s)), m.Take(text(n, s)), m.Take(text(4, s[i:])), m.Read(n, other), m.Ended(n), m.Idle())
			if i%2 == 1 {
				out = append(out, m.Close(other), m.Out(), m.Idle())
			}
		}
		return append(out, m.Out(), m.Ended(0), m.Idle())
	}
	if s, parts := probe.Parting(probe.Texts("\x00\x01\x02\x03\x04\xff", 6), answers, reflect.DeepEqual); parts {
		t.Errorf("%q: two runs part", s)
	}
}

package frame_test

import (
	"bytes"
	"math"
	"reflect"
	"slices"
	"strings"
	"testing"

	"gangway/api"
	"gangway/frame"
	"gangway/probe"
)

// written gives the bytes of a frame, as the chapter tells them; of wrong ones, too.
func written(channel byte, body string) string {
	return string([]byte{channel, byte(len(body) >> 8), byte(len(body))}) + body
}

// framed gives a frame.
func framed(channel int, body string) api.Frame {
	return api.Frame{Channel: channel, Body: []byte(body)}
}

// feeds looks whether a piece brings just these frames, and leaves so many bytes of one.
func feeds(t *testing.T, r *frame.Reader, piece string, rest int, want ...api.Frame) {
	t.Helper()
	if got, e := r.Feed([]byte(piece)); e != api.OK || !probe.SameFrames(got, want) {
		t.Errorf("%.80q: %+v, %v, not %+v", piece, got, e, want)
	}
	if got := r.Rest(); got != rest {
		t.Errorf("%.80q: %d bytes are left, not %d", piece, got, rest)
	}
}

// fails looks whether a piece, and then any other one, is answered by an error, with nothing beside it.
func fails(t *testing.T, r *frame.Reader, piece string, want api.Errno) {
	t.Helper()
	for _, piece := range []string{piece, "", written(1, "ab"), "\x05", "\x01\xff\xff", "\x00", "\x00\x00\x00\x00"} {
		if got, e := r.Feed([]byte(piece)); e != want || len(got) != 0 || r.Rest() != 0 {
			t.Errorf("%.80q: %+v, %v, %d bytes are left, not %v", piece, got, e, r.Rest(), want)
		}
	}
}

// TestWrite: P17.1, each channel, and lengths at the edges of their bytes and of what may be.
func TestWrite(t *testing.T) {
	for channel := range 5 {
		for _, n := range []int{0, 1, 2, 3, 100, 255, 256, 257, 300, 511, 512} {
			body := string(probe.Bytes(uint64(n), n))
			got, e := frame.Write(framed(channel, body))
			if want := written(byte(channel), body); e != api.OK || string(got) != want {
				t.Errorf("%d, %d bytes: %q, %v", channel, n, got, e)
			}
		}
	}
	if got, e := frame.Write(api.Frame{}); e != api.OK || string(got) != "\x00\x00\x00" {
		t.Errorf("%q, %v", got, e)
	}
}

// TestWriteWrong: P17.1, other channels, whatever the body, and then bodies that are too long, by whatever bytes they would be written.
func TestWriteWrong(t *testing.T) {
	lengths := []int{513, 514, 767, 768, 1024, 65535, 65536, 65537, 65536 + 512, 1 << 20}
	for _, n := range append(lengths, 0, 1, 512) {
		body := strings.Repeat("x", n)
		for _, channel := range []int{-1, 5, 6, 255, 256, 257, 260, -256, -255, -5, 1 << 32, 1<<32 + 1, math.MaxInt, math.MinInt, math.MinInt + 1} {
			if got, e := frame.Write(framed(channel, body)); e != api.ErrChannel || len(got) != 0 {
				t.Errorf("%d, %d bytes: %.80q, %v", channel, n, got, e)
			}
		}
	}
	for _, n := range lengths {
		for channel := range 5 {
			if got, e := frame.Write(framed(channel, strings.Repeat("x", n))); e != api.ErrLong || len(got) != 0 {
				t.Errorf("%d, %d bytes: %.80q, %v", channel, n, got, e)
			}
		}
	}
}

// TestExample: the chapter's example.
func TestExample(t *testing.T) {
	r := frame.NewReader()
	feeds(t, r, "\x01\x00\x02a", 4)
	feeds(t, r, "b\x00", 1, framed(1, "ab"))
}

// TestNothing: P17.2 and P17.3, to a new reader nothing came, and no bytes bring nothing, wherever they come.
func TestNothing(t *testing.T) {
	r := frame.NewReader()
	if n := r.Rest(); n != 0 {
		t.Errorf("%d bytes are left", n)
	}
	feeds(t, r, "", 0)
	stream := written(3, "abc")
	for i := range len(stream) - 1 {
		feeds(t, r, stream[i:i+1], i+1)
		feeds(t, r, "", i+1)
	}
	feeds(t, r, "c", 0, framed(3, "abc"))
	feeds(t, r, "", 0)
}

// TestFeed: P17.2 and P17.3, what is written is read, all at once, byte by byte and in two pieces; a frame is there as soon as its last byte is.
func TestFeed(t *testing.T) {
	for channel := range 5 {
		for _, n := range []int{0, 1, 2, 255, 256, 257, 511, 512} {
			body := string(probe.Bytes(uint64(n), n))
			data, _ := frame.Write(framed(channel, body))
			stream, r := string(data), frame.NewReader()
			feeds(t, r, stream, 0, framed(channel, body))
			for i := range len(stream) - 1 {
				feeds(t, r, stream[i:i+1], i+1)
			}
			feeds(t, r, stream[len(stream)-1:], 0, framed(channel, body))
			for cut := 1; cut < len(stream); cut++ {
				feeds(t, r, stream[:cut], cut)
				feeds(t, r, stream[cut:], 0, framed(channel, body))
			}
		}
	}
}

// TestFeedMany: P17.2, all frames of a piece, in order, and the beginning of one behind them.
func TestFeedMany(t *testing.T) {
	r := frame.NewReader()
	stream := written(4, "one") + written(0, "") + written(4, "one") + written(2, "") + written(1, strings.Repeat("x", 512)) + written(3, "\x05\xff\xff") + "\x00\x02"
	feeds(t, r, stream, 2, framed(4, "one"), framed(0, ""), framed(4, "one"), framed(2, ""), framed(1, strings.Repeat("x", 512)), framed(3, "\x05\xff\xff"))
	feeds(t, r, "\x00", 3)
	feeds(t, r, strings.Repeat("y", 512)+stream[:6], 0, framed(0, strings.Repeat("y", 512)), framed(4, "one"))
	r = frame.NewReader()
	feeds(t, r, strings.Repeat("\x00", 3000), 0, make([]api.Frame, 1000)...)
}

// TestEachChannel: P17.2, a frame's first byte above 4 is an error as soon as it has come, alone, with others, and behind a frame.
func TestEachChannel(t *testing.T) {
	for c := range 256 {
		for _, behind := range []string{"", "\x00", "\x00\x01a", "\xff\xff", "\x00\x00\x01\x00\x01a"} {
			for _, ahead := range []string{"", written(1, "a")} {
				piece := string([]byte{byte(c)}) + behind
				r := frame.NewReader()
				feeds(t, r, ahead, 0, framesOf(ahead)...)
				if c > 4 {
					fails(t, r, piece, api.ErrChannel)
				} else if behind == "" {
					feeds(t, r, piece, 1)
				}
			}
		}
	}
}

// framesOf gives the frame of a text of one, and none of an empty one.
func framesOf(stream string) []api.Frame {
	if stream == "" {
		return nil
	}
	return []api.Frame{framed(int(stream[0]), stream[3:])}
}

// TestEachLength: P17.2, of all that two bytes may tell, more than 512 is an error, as soon as both have come, and no sooner.
func TestEachLength(t *testing.T) {
	for n := range 65536 {
		first, second := string([]byte{byte(n % 5), byte(n >> 8)}), string([]byte{byte(n)})
		r := frame.NewReader()
		feeds(t, r, first, 2)
		if n > 512 {
			fails(t, r, second, api.ErrLong)
		} else if n > 0 {
			feeds(t, r, second, 3)
		} else {
			feeds(t, r, second, 0, framed(0, ""))
		}
		if t.Failed() {
			t.FailNow()
		}
	}
}

// TestFirstError: P17.2, the error that is met first is answered, and stays.
func TestFirstError(t *testing.T) {
	for piece, want := range map[string]api.Errno{
		"\x05\xff\xff": api.ErrChannel, "\xff\x02\x01": api.ErrChannel, "\x04\x02\x01": api.ErrLong, "\x00\xff\xff\x05": api.ErrLong, "\x00\x02\x01\xff\xff\xff": api.ErrLong,
		"\x00\x00\x00\x05": api.ErrChannel, "\x00\x00\x01\x05\x05": api.ErrChannel, "\x00\x00\x01\x05\x00\x03\x00\x05": api.ErrLong, "\x05\x00\x01\x00\x00\xff\xff": api.ErrChannel,
	} {
		fails(t, frame.NewReader(), piece, want)
	}
}

// TestErrorTakesFrames: P17.2, with an error the frames aren't answered that became whole with the same piece; those ahead of it were.
func TestErrorTakesFrames(t *testing.T) {
	for wrong, want := range map[string]api.Errno{"\x05": api.ErrChannel, "\x01\x02\x01": api.ErrLong} {
		for frames := range 4 {
			r := frame.NewReader()
			feeds(t, r, written(1, "ahead")+"\x02", 1, framed(1, "ahead"))
			fails(t, r, "\x00\x01x"+strings.Repeat(written(3, "with"), frames)+wrong+written(3, "behind"), want)
		}
	}
}

// twin gives what comes of a stream in one piece: its frames up to an error, how many bytes are left, and the error.
func twin(stream string) ([]api.Frame, int, api.Errno) {
	var frames []api.Frame
	for stream != "" {
		if stream[0] > 4 {
			return frames, 0, api.ErrChannel
		}
		if len(stream) < 3 {
			break
		}
		n := int(stream[1])*256 + int(stream[2])
		if n > 512 {
			return frames, 0, api.ErrLong
		}
		if len(stream) < 3+n {
			break
		}
		frames, stream = append(frames, framed(int(stream[0]), stream[3:3+n])), stream[3+n:]
	}
	return frames, len(stream), api.OK
}

// holds looks whether a reader answers pieces, one behind the other, as a twin does that each time goes through all that came.
func holds(t *testing.T, pieces []string) {
	t.Helper()
	r, came, told := frame.NewReader(), "", 0
	for i, piece := range pieces {
		came += piece
		want, rest, no := twin(came)
		if no != api.OK {
			want, told = nil, 0
		}
		got, e := r.Feed([]byte(piece))
		if e != no || !probe.SameFrames(got, want[told:]) || r.Rest() != rest {
			t.Fatalf("%q, piece %d: %+v, %v, %d bytes are left, not %+v, %v, %d", pieces, i, got, e, r.Rest(), want[told:], no, rest)
		}
		told = len(want)
	}
}

// TestAllCuts: P17.4, streams cut in all ways, also such as have an error.
func TestAllCuts(t *testing.T) {
	for _, stream := range []string{
		written(1, "ab") + written(0, "") + written(4, "c"), written(3, "\x05\x00") + written(2, "") + "\x01\x00\x02x", written(0, "") + written(0, "") + "\x00\x02",
		written(1, "ab") + written(2, "") + "\x05\x00\x00", written(1, "a") + written(4, "b") + "\x02\x03\x00\x00", "\x00\x02\x01" + written(1, "ab"), "\x06" + written(1, "ab"),
		written(0, "abcdefghij"), "\x00\x02\x00abcdefgh",
	} {
		for cuts := range 1 << (len(stream) - 1) {
			var pieces []string
			begun := 0
			for i := range len(stream) - 1 {
				if cuts>>i&1 != 0 {
					pieces, begun = append(pieces, stream[begun:i+1]), i+1
				}
			}
			holds(t, append(pieces, stream[begun:]))
		}
	}
}

// TestLongStreams: P17.2 to P17.4, frames in no order, in pieces of no order, some with an error behind.
func TestLongStreams(t *testing.T) {
	for seed := range uint64(300) {
		random := probe.Bytes(seed, 200)
		var stream string
		for i := 0; i < 40; i += 2 {
			n := int(random[i]) % 8
			if random[i] > 200 {
				n = 2*int(random[i]) + 2 // up to 512
			}
			stream += written(random[i+1]%5, string(probe.Bytes(seed+uint64(i), n)))
		}
		switch seed % 3 {
		case 1:
			stream += "\x09" + written(1, "ab")
		case 2:
			stream += "\x02\x02\x07" + written(1, "ab")
		}
		var pieces []string
		for i := 40; stream != ""; i++ {
			n := 1 + int(random[40+i%160])%(1+int(seed)*3)
			n = min(n, len(stream))
			pieces, stream = append(pieces, stream[:n]), stream[n:]
		}
		holds(t, pieces)
	}
}

// TestApart: rule 6, what is done to one reader isn't seen in another.
func TestApart(t *testing.T) {
	one, two := frame.NewReader(), frame.NewReader()
	feeds(t, one, "\x01\x00\x02a", 4)
	feeds(t, two, "\x02", 1)
	feeds(t, one, "b", 0, framed(1, "ab"))
	fails(t, one, "\x05", api.ErrChannel)
	feeds(t, two, "\x00\x01c", 0, framed(2, "c"))
}

// TestNothingIsKept: P17.5, what is handed in isn't written to, and may be written over behind the call.
func TestNothingIsKept(t *testing.T) {
	body, all := probe.Roomy("body")
	data, _ := frame.Write(api.Frame{Channel: 1, Body: body})
	if string(all) != "body"+probe.Spare {
		t.Errorf("%q", all)
	}
	probe.Spoil(body)
	if string(data) != written(1, "body") {
		t.Errorf("%q", data)
	}

	r := frame.NewReader()
	stream := written(2, "first") + written(3, "second")
	for cut := range len(stream) + 1 {
		var got []api.Frame
		for _, piece := range []string{stream[:cut], stream[cut:]} {
			handed, all := probe.Roomy(piece)
			frames, _ := r.Feed(handed)
			if string(all) != piece+probe.Spare {
				t.Errorf("%q", all)
			}
			probe.Spoil(handed)
			got = append(got, frames...)
		}
		if !probe.SameFrames(got, []api.Frame{framed(2, "first"), framed(3, "second")}) {
			t.Errorf("cut at %d: %+v", cut, got)
		}
	}
}

// TestAnswersAreNew: P17.5, answers may be written over, and their spare room; neither the reader nor another answer has it.
func TestAnswersAreNew(t *testing.T) {
	f := framed(1, "body")
	one, _ := frame.Write(f)
	two, _ := frame.Write(f)
	probe.Spoil(one)
	if string(two) != written(1, "body") || string(f.Body) != "body" {
		t.Errorf("%q, %q", two, f.Body)
	}

	r := frame.NewReader()
	stream := written(1, "one") + written(2, "two") + written(3, "") + written(4, "four")
	want := []api.Frame{framed(1, "one"), framed(2, "two"), framed(3, ""), framed(4, "four")}
	for spoilt := range want {
		first, _ := r.Feed([]byte(stream + stream[:4]))
		probe.Spoil(first[spoilt].Body)
		for i, f := range first {
			if i != spoilt && !bytes.Equal(f.Body, want[i].Body) {
				t.Errorf("bodies of one answer share memory: %q", f.Body)
			}
		}
		second, _ := r.Feed([]byte(stream[4:]))
		for _, f := range first {
			probe.Spoil(f.Body)
		}
		clear(first[:cap(first)])
		if !probe.SameFrames(second, want) {
			t.Errorf("answers share memory: %+v", second)
		}
	}
}

// TestAnyArguments: P1 and P2, each call ends, without a panic, and answers the same in a second run.
func TestAnyArguments(t *testing.T) {
	answers := func(s string) []any {
		r, half := frame.NewReader(), len(s)/2
		var out []any
		for _, piece := range []string{s[:half], s[half:], s} {
			frames, e := r.Feed([]byte(piece))
			out = append(out, frames, e, r.Rest())
		}
		data, e := frame.Write(framed(len(s)-1, s))
		return append(out, data, e)
	}
	if s, parts := probe.Parting(probe.Texts("\x00\x01\x02\x03\x04\x05\xff", 5), answers, reflect.DeepEqual); parts {
		t.Errorf("%q: two runs part", s)
	}
	for s := range probe.Texts("\x00\x01\x02\x05\xff", 6) {
		holds(t, []string{s[:len(s)/2], s[len(s)/2:]})
	}
}

// TestBigPieces: P1 and P17.4, a piece of many frames is as good as many pieces, and bytes one by one, too.
func TestBigPieces(t *testing.T) {
	one := written(1, strings.Repeat("x", 512)) + written(2, "") + written(4, "abcd")
	want := []api.Frame{framed(1, strings.Repeat("x", 512)), framed(2, ""), framed(4, "abcd")}
	r, stream := frame.NewReader(), strings.Repeat(one, 2000)
	got, e := r.Feed([]byte(stream))
	if e != api.OK || len(got) != 6000 {
		t.Fatalf("%d frames, %v", len(got), e)
	}
	for many := range slices.Chunk(got, 3) {
		if !probe.SameFrames(many, want) {
			t.Fatalf("%+v", many)
		}
	}
	frames := 0
	for i := range stream {
		got, e := r.Feed([]byte(stream[i : i+1]))
		if frames += len(got); e != api.OK {
			t.Fatalf("byte %d: %v", i, e)
		}
	}
	if frames != 6000 || r.Rest() != 0 {
		t.Errorf("%d frames, %d bytes are left", frames, r.Rest())
	}
}

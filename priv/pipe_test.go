package priv_test

import (
	"bytes"
	"math"
	"reflect"
	"slices"
	"strings"
	"testing"

	"gangway/api"
	"gangway/priv"
	"gangway/probe"
	"gangway/seal"
)

// sends looks whether Send answers this.
func (b *bench) sends(p *priv.Pipe, data string, want api.Errno) {
	b.Helper()
	if e := p.Send([]byte(data)); e != want {
		b.Errorf("%d bytes: %v, not %v", len(data), e, want)
	}
}

// has looks whether just these boxes aren't acknowledged.
func (b *bench) has(p *priv.Pipe, want ...[]byte) {
	b.Helper()
	if got := p.Boxes(); !sameLists(got, want) || p.Open() != len(want) {
		b.Errorf("%d: %x, not %x", p.Open(), got, want)
	}
}

// takes looks whether a box brings just these data, and is answered by just these boxes.
func (b *bench) takes(p *priv.Pipe, box []byte, data []string, answers ...[]byte) {
	b.Helper()
	got, back, e := p.Receive(box)
	if e != api.OK || !slices.Equal(texts(got), data) || !sameLists(back, answers) {
		b.Errorf("%x: %q, %x, %v, not %q, %x", box, got, back, e, data, answers)
	}
}

// refuses looks whether a box is answered by an error, with nothing beside it.
func (b *bench) refuses(p *priv.Pipe, box []byte, want api.Errno) {
	b.Helper()
	if got, back, e := p.Receive(box); e != want || len(got) != 0 || len(back) != 0 {
		b.Errorf("%x: %q, %x, %v, not %v", box, got, back, e, want)
	}
}

// piped gives a box for a pipe that the test itself makes.
func (b *bench) piped(side, number, upTo uint64, data string) []byte {
	b.Helper()
	return b.given(key, 6, content(side, number, upTo, data))
}

// mustPipe gives the box that a pipe must make next.
func (b *bench) mustPipe(side, number, upTo uint64, data string) []byte {
	b.Helper()
	return b.must(key, 6, content(side, number, upTo, data))
}

// TestNew: P14.1, nothing went over a new pipe; its side is 0 or 1.
func TestNew(t *testing.T) {
	for side, want := range map[int]uint64{0: 0, 1: 1, -1: 1, 2: 1, 256: 1, math.MaxInt: 1, math.MinInt: 1} {
		onBoth(t, func(b *bench) {
			p := priv.New(b.s, key, side)
			b.has(p)
			b.sends(p, "x", api.OK)
			b.has(p, b.mustPipe(want, 1, 0, "x"))
			b.takes(p, b.piped(1-want, 1, 0, "y"), []string{"y"}, b.mustPipe(want, 0, 1, ""))
			b.refuses(p, b.piped(want, 2, 0, "z"), api.ErrMatch)
		})
	}
}

// TestExample: the chapter's example.
func TestExample(t *testing.T) {
	onBoth(t, func(b *bench) {
		one, two := priv.New(b.s, key, 0), priv.New(b.s, key, 1)
		b.sends(one, "x", api.OK)
		box := b.mustPipe(0, 1, 0, "x")
		b.has(one, box)
		answer := b.mustPipe(1, 0, 1, "")
		b.takes(two, box, []string{"x"}, answer)
		b.takes(one, answer, nil)
		b.has(one)
		b.has(two)
		b.takes(two, box, nil, b.mustPipe(1, 0, 1, ""))
	})
}

// TestSend: P14.2, boxes of the next numbers, up to eight of them; the same ones as often as they are asked for.
func TestSend(t *testing.T) {
	onBoth(t, func(b *bench) {
		p := priv.New(b.s, key, 0)
		var want [][]byte
		for i, n := range []int{0, 1, 1000, 999, 256, 255, 2, 1000} {
			data := string(probe.Bytes(uint64(i), n))
			b.sends(p, data, api.OK)
			want = append(want, b.mustPipe(0, uint64(i+1), 0, data))
			b.has(p, want...)
			b.has(p, want...)
		}
		for _, n := range []int{0, 1, 1000} {
			b.sends(p, strings.Repeat("x", n), api.ErrFull)
		}
		for _, n := range []int{1001, 2000, 70000} {
			b.sends(p, strings.Repeat("x", n), api.ErrLong) // told ahead of ErrFull
		}
		b.has(p, want...)
	})
}

// TestSendLong: P14.2, what is too long takes no number, and no box.
func TestSendLong(t *testing.T) {
	onBoth(t, func(b *bench) {
		p := priv.New(b.s, key, 1)
		b.sends(p, strings.Repeat("x", 1001), api.ErrLong)
		b.has(p)
		b.sends(p, "x", api.OK)
		b.sends(p, strings.Repeat("x", 1001), api.ErrLong)
		b.has(p, b.mustPipe(1, 1, 0, "x"))
	})
}

// filled gives a pipe of side 0 that has sent so many, of which the last eight aren't acknowledged, and these.
func (b *bench) filled(many int) (*priv.Pipe, [][]byte) {
	b.Helper()
	p := priv.New(b.s, key, 0)
	var boxes [][]byte
	for n := range uint64(many) {
		b.sends(p, "data", api.OK)
		boxes = append(boxes, b.mustPipe(0, n+1, 0, "data"))
		if n+8 < uint64(many) {
			b.takes(p, b.piped(1, 0, n+1, ""), nil)
			boxes = boxes[1:]
			b.has(p, boxes...)
		}
	}
	b.has(p, boxes...)
	return p, boxes
}

// TestAcknowledge: P14.3, the boxes that are out, of those with numbers up to any; there is no answer, nothing comes, and there is room again.
func TestAcknowledge(t *testing.T) {
	for _, many := range []int{8, 9, 20, 270} {
		for above, out := range map[uint64]int{0: 0, 1: 1, 2: 2, 4: 4, 7: 7, 8: 8, 9: 8, 256: 8, 1 << 32: 8, 1 << 63: 8, greatest - 1000: 8} {
			onBoth(t, func(b *bench) {
				p, boxes := b.filled(many)
				box := b.piped(1, 0, uint64(many-8)+above, "")
				for range 2 { // once more it changes nothing
					b.takes(p, box, nil)
					b.has(p, boxes[out:]...)
				}
				boxes = boxes[out:]
				for n := range uint64(out) {
					b.sends(p, "new", api.OK)
					boxes = append(boxes, b.mustPipe(0, uint64(many)+n+1, 0, "new"))
				}
				b.sends(p, "new", api.ErrFull)
				b.takes(p, box, nil) // those that were sent later may have numbers up to it
				if above > 8 {
					boxes = boxes[min(8, above-8):]
				}
				b.has(p, boxes...)
			})
		}
	}
}

// TestAcknowledgeOld: P14.3, numbers below those that are out, and numbers where nothing was sent.
func TestAcknowledgeOld(t *testing.T) {
	onBoth(t, func(b *bench) {
		p, boxes := b.filled(300)
		for _, upTo := range []uint64{0, 1, 8, 255, 256, 291, 292} {
			b.takes(p, b.piped(1, 0, upTo, ""), nil)
			b.has(p, boxes...)
		}
		b.takes(p, b.piped(1, 0, greatest, ""), nil)
		b.has(p)
		p = priv.New(b.s, key, 1)
		for _, upTo := range []uint64{0, 1, greatest} {
			b.takes(p, b.piped(0, 0, upTo, ""), nil)
			b.has(p)
		}
		b.sends(p, "x", api.OK)
		b.has(p, b.mustPipe(1, 1, 0, "x"))
	})
}

// TestAcknowledgeWithData: P14.3, of a box of number 0 nothing comes, whatever stands in it.
func TestAcknowledgeWithData(t *testing.T) {
	onBoth(t, func(b *bench) {
		p, boxes := b.filled(8)
		b.takes(p, b.piped(1, 0, 3, "data"), nil)
		b.has(p, boxes[3:]...)
		b.takes(p, b.piped(1, 1, 0, "x"), []string{"x"}, b.mustPipe(0, 0, 1, "")) // it counts as none that came
	})
}

// TestReceive: P14.3, each comes once, when its number is expected; each is answered.
func TestReceive(t *testing.T) {
	onBoth(t, func(b *bench) {
		p := priv.New(b.s, key, 1)
		for _, x := range []struct {
			number uint64
			data   string
			come   []string
			upTo   uint64
		}{
			{2, "b", nil, 0}, {greatest, "z", nil, 0}, {1, "a", []string{"a"}, 1}, {1, "a", nil, 1}, {1, "other", nil, 1}, {3, "c", nil, 1},
			{2, "", []string{""}, 2}, {2, "", nil, 2}, {4, "d", nil, 2}, {3, strings.Repeat("c", 1000), []string{strings.Repeat("c", 1000)}, 3}, {1, "a", nil, 3},
		} {
			b.takes(p, b.piped(0, x.number, 0, x.data), x.come, b.mustPipe(1, 0, x.upTo, ""))
			b.has(p) // its own boxes play no part
		}
		for n := uint64(4); n < 600; n++ {
			box := b.piped(0, n, 0, "x")
			b.takes(p, box, []string{"x"}, b.mustPipe(1, 0, n, ""))
			b.takes(p, box, nil, b.mustPipe(1, 0, n, ""))
		}
	})
}

// TestReceiveWhileSending: P14.3, what comes acknowledges nothing of what goes, and the other way round.
func TestReceiveWhileSending(t *testing.T) {
	onBoth(t, func(b *bench) {
		p, boxes := b.filled(8)
		b.takes(p, b.piped(1, 1, 0, "x"), []string{"x"}, b.mustPipe(0, 0, 1, ""))
		b.has(p, boxes...)
		b.takes(p, b.piped(1, 0, 8, ""), nil)
		b.has(p)
		b.takes(p, b.piped(1, 2, 0, "y"), []string{"y"}, b.mustPipe(0, 0, 2, ""))
		b.sends(p, "z", api.OK)
		b.has(p, b.mustPipe(0, 9, 0, "z"))
	})
}

// notContents are what may stand in a box and isn't as it must be, for the side 0 and for the side 1.
func notContents() []string {
	f, n := probe.Field, probe.Num
	right := content(0, 1, 0, "x")
	all := []string{
		"", "x", "\x00", right[:len(right)-1], right[1:], right + "\x00", right + f(45, ""), f(40, "") + right, right + right,
		f(41, "") + f(42, n(1)) + f(43, ""), f(42, n(1)) + f(43, "") + f(44, "x"), f(41, "") + f(43, "") + f(44, "x"), f(41, "") + f(42, n(1)) + f(44, "x"),
		f(42, n(1)) + f(41, "") + f(43, "") + f(44, "x"), f(41, "") + f(43, "") + f(42, n(1)) + f(44, "x"), f(44, "x") + f(41, "") + f(42, n(1)) + f(43, ""),
		f(41, "") + f(42, n(1)) + f(43, "") + f(45, "x"), f(31, "") + f(42, n(1)) + f(43, "") + f(44, "x"), f(51, "x") + f(52, ""),
		f(11, "ann@LAND") + f(12, "") + f(13, "") + f(14, strings.Repeat("k", 16)),
	}
	for _, wrong := range []string{"\x00", "\x00\x01", strings.Repeat("\x00", 8), "\x01" + strings.Repeat("\x00", 8), strings.Repeat("\xff", 9), strings.Repeat("k", 16)} {
		all = append(all, f(41, wrong)+f(42, n(1))+f(43, "")+f(44, "x"))
		for _, side := range []string{"", "\x01"} {
			all = append(all, f(41, side)+f(42, wrong)+f(43, "")+f(44, "x"), f(41, side)+f(42, "")+f(43, wrong)+f(44, ""), f(41, side)+f(42, n(1))+f(43, wrong)+f(44, "x"))
		}
	}
	for _, side := range []uint64{2, 3, 255, 256, 257, 1 << 32, 1 << 63, greatest} {
		all = append(all, content(side, 1, 0, "x"), content(side, 0, 3, ""))
	}
	for _, upTo := range []uint64{1, 2, 3, greatest} { // numbered ones acknowledge nothing
		all = append(all, content(0, 1, upTo, "x"), content(1, 1, upTo, "x"), content(0, greatest, upTo, "x"), content(1, 2, upTo, ""))
	}
	return all
}

// unchanged looks whether a pipe of this side still expects number 1, and has just these boxes.
func (b *bench) unchanged(p *priv.Pipe, side uint64, boxes [][]byte) {
	b.Helper()
	b.has(p, boxes...)
	b.takes(p, b.piped(1-side, 2, 0, "x"), nil, b.mustPipe(side, 0, 0, ""))
}

// TestReceiveForm: P14.3, what isn't as it must be, for both sides; ErrForm comes ahead of ErrMatch.
func TestReceiveForm(t *testing.T) {
	for side := range uint64(2) {
		onBoth(t, func(b *bench) {
			p := priv.New(b.s, key, int(side))
			b.sends(p, "mine", api.OK)
			boxes := [][]byte{b.mustPipe(side, 1, 0, "mine")}
			for _, plain := range notContents() {
				b.refuses(p, b.given(key, 6, plain), api.ErrForm)
				b.unchanged(p, side, boxes)
				b.refuses(p, b.given(other, 6, plain), api.ErrSeal)
			}
			b.takes(p, b.piped(1-side, 1, 0, "x"), []string{"x"}, b.mustPipe(side, 0, 1, ""))
		})
	}
}

// TestReceiveSeal: P14.3, boxes that are none, or were sealed under another key, or for another use.
func TestReceiveSeal(t *testing.T) {
	onBoth(t, func(b *bench) {
		p := priv.New(b.s, key, 1)
		b.sends(p, "mine", api.OK)
		boxes := [][]byte{b.mustPipe(1, 1, 0, "mine")}
		right := content(0, 1, 0, "x")
		for use := range 10 {
			if use != 6 {
				b.refuses(p, b.given(key, use, right), api.ErrSeal)
				b.refuses(p, b.given(key, use, content(0, 0, 1, "")), api.ErrSeal)
			}
		}
		for _, k := range []api.Key{other, {}, {1}} {
			b.refuses(p, b.given(k, 6, right), api.ErrSeal)
		}
		box := b.given(api.Key{}, 6, right) // by symbols no other number may be one that this key opens
		for _, wrong := range spoilt(box) {
			b.refuses(p, wrong, api.ErrSeal)
		}
		b.refuses(p, []byte(right), api.ErrSeal)
		b.unchanged(p, 1, boxes)
		b.takes(p, b.piped(0, 1, 0, "x"), []string{"x"}, b.mustPipe(1, 0, 1, ""))
	})
}

// TestReceiveOwn: P14.3, what its own side has sealed comes back: nothing of it comes, and nothing is acknowledged.
func TestReceiveOwn(t *testing.T) {
	for side := range uint64(2) {
		onBoth(t, func(b *bench) {
			p := priv.New(b.s, key, int(side))
			b.sends(p, "mine", api.OK)
			boxes := [][]byte{b.mustPipe(side, 1, 0, "mine")}
			b.refuses(p, boxes[0], api.ErrMatch)
			for _, upTo := range []uint64{0, 1, greatest} {
				b.refuses(p, b.piped(side, 0, upTo, ""), api.ErrMatch)
			}
			b.unchanged(p, side, boxes)
		})
	}
}

// TestApart: rule 6, pipes over one sealer are by themselves, also under one key.
func TestApart(t *testing.T) {
	onBoth(t, func(b *bench) {
		p, twin, q := priv.New(b.s, key, 0), priv.New(b.s, key, 0), priv.New(b.s, other, 0)
		b.sends(p, "x", api.OK)
		box := b.mustPipe(0, 1, 0, "x")
		b.has(twin)
		b.has(q)
		b.sends(q, "y", api.OK)
		b.has(q, b.must(other, 6, content(0, 1, 0, "y")))
		b.takes(twin, b.piped(1, 1, 0, "z"), []string{"z"}, b.mustPipe(0, 0, 1, ""))
		b.takes(p, b.piped(1, 1, 0, "z"), []string{"z"}, b.mustPipe(0, 0, 1, ""))
		b.takes(q, b.given(other, 6, content(1, 0, 1, "")), nil)
		b.has(q)
		b.has(p, box)
	})
}

// model is a pipe of side 0 as a list of what it must have.
type model struct {
	boxes   [][]byte
	numbers []uint64
	sent    uint64
	expects uint64
}

// TestLongRun: P14.1 to P14.3, many calls in no order, held against a list.
func TestLongRun(t *testing.T) {
	onBoth(t, func(b *bench) {
		p, m := priv.New(b.s, key, 0), model{expects: 1}
		random := probe.Bytes(14, 12000)
		for i := 0; i < len(random) && !b.Failed(); i += 3 {
			near := uint64(random[i+1] % 5)
			switch random[i] % 5 {
			case 0, 1:
				if len(m.boxes) == 8 {
					b.sends(p, "x", api.ErrFull)
					continue
				}
				m.sent++
				data := string(random[i+1 : i+3])
				b.sends(p, data, api.OK)
				m.boxes, m.numbers = append(m.boxes, b.mustPipe(0, m.sent, 0, data)), append(m.numbers, m.sent)
			case 2:
				upTo := max(m.sent, 6) - 6 + near*2
				b.takes(p, b.piped(1, 0, upTo, ""), nil)
				for len(m.numbers) > 0 && m.numbers[0] <= upTo {
					m.boxes, m.numbers = m.boxes[1:], m.numbers[1:]
				}
			case 3:
				number := max(m.expects+near, 4) - 3
				var come []string
				box := b.piped(1, number, 0, "data")
				if number == m.expects {
					come, m.expects = []string{"data"}, m.expects+1
				}
				b.takes(p, box, come, b.mustPipe(0, 0, m.expects-1, ""))
			case 4:
				b.refuses(p, b.piped(0, near, 0, ""), api.ErrMatch)
			}
			b.has(p, m.boxes...)
		}
		if m.sent < 300 || m.expects < 100 {
			b.Errorf("only %d were sent, and %d came", m.sent, m.expects-1)
		}
	})
}

// ends are both sides of a session, what each has sent, and what came to it; mails are the boxes that are under way, or were.
type ends struct {
	*testing.T
	pipes      [2]*priv.Pipe
	sent, come [2][]string
	mails      [][]byte
}

// deliver lets a box come to a side, and looks whether what came is a beginning of what the other side has sent.
func (x *ends) deliver(side int, box []byte) {
	x.Helper()
	data, answers, e := x.pipes[side].Receive(box)
	if e != api.OK && len(data)+len(answers) > 0 {
		x.Errorf("%q, %x beside %v", data, answers, e)
	}
	x.come[side] = append(x.come[side], texts(data)...)
	x.mails = append(x.mails, answers...)
	if n, sent := len(x.come[side]), x.sent[1-side]; n > len(sent) || !slices.Equal(x.come[side], sent[:n]) {
		x.Fatalf("to side %d came %q of %q", side, x.come[side], sent)
	}
}

// goOn lets both sides send their boxes, in order, which come, as their answers do.
func (x *ends) goOn() {
	x.Helper()
	for side, p := range x.pipes {
		for _, box := range p.Boxes() {
			x.mails = nil
			x.deliver(1-side, box)
			for _, answer := range x.mails {
				x.deliver(side, answer)
			}
		}
	}
}

// strange gives boxes that others make, or that are made of one that went: none of them under the key for a session's data.
func strange(s *seal.Sealer, box []byte, r byte) []byte {
	switch r % 6 {
	case 0:
		other, _ := s.Seal(other, 6, []byte(content(uint64(r&1), uint64(r%16), 0, "strange")))
		return other
	case 1:
		other, _ := s.Seal(key, int(r%5), []byte(content(uint64(r&1), uint64(r%16), 0, "strange")))
		return other
	case 2:
		return box[:int(r)%len(box)]
	case 3:
		return append(bytes.Clone(box), r)
	}
	turned := bytes.Clone(box)
	turned[int(r)%len(box)] ^= 1 + r/8
	return turned
}

// trouble lets something happen: a side sends, and what is under way comes, late, twice, never, or to the wrong side, or something strange does.
func (x *ends) trouble(s *seal.Sealer, r [4]byte) {
	x.Helper()
	side := int(r[0] & 1)
	switch {
	case r[0] < 90:
		data := string(probe.Bytes(uint64(r[1])<<8|uint64(r[2]), int(r[3])%50))
		if e := x.pipes[side].Send([]byte(data)); e == api.OK {
			x.sent[side] = append(x.sent[side], data)
		} else if e != api.ErrFull {
			x.Fatal(e)
		}
	case r[0] < 110:
		x.mails = append(x.mails, x.pipes[side].Boxes()...)
	case r[0] < 130: // some of them at once
		for i, box := range x.pipes[side].Boxes() {
			if r[1]>>i&1 == 0 || r[2] < 100 {
				x.deliver(1-side, box)
			}
		}
	case len(x.mails) == 0:
	case r[0] < 150: // one of all that went
		x.deliver(side, x.mails[(int(r[1])<<8|int(r[2]))%len(x.mails)])
	case r[0] < 230: // one of the latest
		x.deliver(side, x.mails[len(x.mails)-1-int(r[1])%min(10, len(x.mails))])
	case r[0] < 250:
		x.deliver(side, strange(s, x.mails[int(r[1])%len(x.mails)], r[2]))
	default:
		x.mails = x.mails[len(x.mails)/2:]
	}
}

// TestWholeSession: P14.4, whatever becomes of boxes, what comes is a beginning of what was sent; and if all come in the end, all of it comes.
func TestWholeSession(t *testing.T) {
	for _, symbols := range kinds {
		came, kept := 0, 0
		for seed := range uint64(60) {
			s := seal.New(symbols, api.Key{byte(seed)})
			x := &ends{T: t, pipes: [2]*priv.Pipe{priv.New(s, key, 0), priv.New(s, key, 1)}}
			random := probe.Bytes(seed+1000, 4*800)
			for i := 0; i < len(random); i += 4 {
				x.trouble(s, [4]byte(random[i:i+4]))
			}
			came += len(x.come[0]) + len(x.come[1])
			kept += x.pipes[0].Open() + x.pipes[1].Open()
			x.goOn()
			for side, p := range x.pipes {
				if p.Open() != 0 || !slices.Equal(x.come[side], x.sent[1-side]) {
					t.Errorf("seed %d: %d aren't acknowledged; %q, not %q", seed, p.Open(), x.come[side], x.sent[1-side])
				}
			}
		}
		if came < 2000 || kept < 100 {
			t.Errorf("only %d came, and %d had to be sent again", came, kept)
		}
	}
}

// TestPipeKeepsNothing: P14.7, of pipes: what is handed in stays as it is, and may be written over; so may answers.
func TestPipeKeepsNothing(t *testing.T) {
	onBoth(t, func(b *bench) {
		p := priv.New(b.s, key, 0)
		data, all := probe.Roomy("data")
		var want [][]byte
		for n := range uint64(5) {
			if e := p.Send(data); e != api.OK || string(all) != "data"+probe.Spare {
				b.Errorf("%v, %q", e, all)
			}
			want = append(want, b.mustPipe(0, n+1, 0, "data"))
		}
		probe.Spoil(data)
		got := p.Boxes()
		for i, box := range got {
			probe.Spoil(box)
			if !sameLists(got[i+1:], want[i+1:]) {
				b.Errorf("boxes of one answer share memory: %x", got)
			}
		}
		clear(got[:cap(got)])
		b.has(p, want...)
		b.keepsNoBox(p)
		b.has(p, want...)
	})
}

// keepsNoBox looks at a box that comes to a pipe, at its data, and at the answer.
func (b *bench) keepsNoBox(p *priv.Pipe) {
	b.Helper()
	box := b.piped(1, 1, 0, "comes")
	came, room := probe.Roomy(string(box))
	data, answers, e := p.Receive(came)
	if want := b.mustPipe(0, 0, 1, ""); e != api.OK || string(room) != string(box)+probe.Spare || len(data) != 1 || !sameLists(answers, [][]byte{want}) {
		b.Fatalf("%q, %x, %v, %q", data, answers, e, room)
	}
	answer := string(answers[0])
	probe.Spoil(came)
	if string(data[0]) != "comes" {
		b.Errorf("data share memory with their box: %q", data[0])
	}
	probe.Spoil(data[0])
	if string(answers[0]) != answer {
		b.Errorf("one answer's lists share memory: %x", answers[0])
	}
	probe.Spoil(answers[0])
	b.takes(p, box, nil, b.mustPipe(0, 0, 1, "")) // the sealer has kept neither of them
	b.refuses(p, []byte(answer), api.ErrMatch)
}

// pipeAnswers gives all that a pipe answers to what is made of a text.
func pipeAnswers(text string) []any {
	s := seal.New(len(text)%2 == 0, api.Key{3})
	p := priv.New(s, key, len(text)-2)
	var out []any
	for i := range text {
		box, e := s.Seal(key, api.UsePriv, []byte(text[i:]))
		_, answers, e1 := p.Receive(box)
		box2, _ := s.Seal(key, api.UsePriv, []byte(content(uint64(i%2), uint64(text[i]), 0, text)))
		data, answers2, e2 := p.Receive(box2)
		_, _, e3 := p.Receive([]byte(text))
		out = append(out, e, answers, e1, data, answers2, e2, e3, p.Send([]byte(text[:i])), p.Open(), p.Boxes())
	}
	return append(out, s.Terms())
}

// TestAnyPipe: P1 and P2, each call ends, without a panic, and answers the same in a second run.
func TestAnyPipe(t *testing.T) {
	if s, parts := probe.Parting(probe.Texts("\x29\x2a\x00\x01\x02", 4), pipeAnswers, reflect.DeepEqual); parts {
		t.Errorf("%q: two runs part", s)
	}
}

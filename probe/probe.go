// Package probe has what the tests of several layers share: texts to try, dice, memory to write over, copies that share none, and trees that are planted, and what is asked of messages, mails, frames, nodes, outputs, errors and sealers. No layer calls it.
package probe

import (
	"iter"
	"strconv"
)

// Texts gives all texts of at most most bytes, each of them one of the alphabet's.
func Texts(alphabet string, most int) iter.Seq[string] {
	return func(yield func(string) bool) {
		grow("", alphabet, most, yield)
	}
}

// grow gives s and all that begin with it; false, if no more are asked for.
func grow(s, alphabet string, most int, yield func(string) bool) bool {
	if !yield(s) {
		return false
	}
	if len(s) >= most {
		return true
	}
	for i := range len(alphabet) {
		if !grow(s+alphabet[i:i+1], alphabet, most, yield) {
			return false
		}
	}
	return true
}

// Spare is what Roomy puts into the spare room.
const Spare = "spare room"

// Roomy gives the bytes of a text with spare room behind them, and the bytes with that room.
func Roomy(s string) (b, all []byte) {
	all = []byte(s + Spare)
	return all[:len(s)], all
}

// Spoil writes over a list of bytes, and over its spare room.
func Spoil(b []byte) {
	b = b[:cap(b)]
	for i := range b {
		b[i] = 0xaa // always the same: turning bits would mend what is met twice
	}
}

// Bytes gives n bytes in no order to be seen, the same ones for the same seed.
func Bytes(seed uint64, n int) []byte {
	b := make([]byte, n)
	for i := range b {
		seed = next(seed)
		b[i] = byte(seed >> 56)
	}
	return b
}

// next gives the number behind one; those of the greatest weight of its bits show no order.
func next(n uint64) uint64 { return n*6364136223846793005 + 1442695040888963407 }

// Dice give numbers and texts in no order to be seen, the same ones for the same seed.
type Dice struct {
	state uint64
}

// NewDice gives the dice of a seed.
func NewDice(seed uint64) *Dice { return &Dice{state: seed} }

// Roll gives a number from 0 on, below n, which is above 0.
func (d *Dice) Roll(n int) int {
	d.state = next(d.state)
	return int((d.state >> 33) % uint64(n))
}

// Text gives a text of n bytes.
func (d *Dice) Text(n int) string {
	d.state = next(d.state)
	return string(Bytes(d.state, n))
}

// Cut gives a text in pieces of many lengths, some of them empty.
func (d *Dice) Cut(text string) []string {
	var pieces []string
	for text != "" {
		most := []int{2, 8, 100, 2000}[d.Roll(4)]
		n := min(d.Roll(most), len(text))
		pieces = append(pieces, text[:n])
		text = text[n:]
	}
	return pieces
}

// Pick gives any of a list, which isn't empty.
func Pick[A any](d *Dice, list []A) A { return list[d.Roll(len(list))] }

// Differ tells where two runs that told these texts part; nothing, if they don't.
func Differ(one, two []string) string {
	for i := range min(len(one), len(two)) {
		if one[i] != two[i] {
			return strconv.Itoa(i) + ": " + one[i] + ", not " + two[i]
		}
	}
	if len(one) != len(two) {
		return strconv.Itoa(len(one)) + " texts, not " + strconv.Itoa(len(two))
	}
	return ""
}

// Parting gives the first of the texts to which answers tells something else in a second run than in the first; false, if there is none.
func Parting[A any](texts iter.Seq[string], answers func(string) A, same func(a, b any) bool) (string, bool) {
	var first []A
	for s := range texts {
		first = append(first, answers(s))
	}
	i := 0
	for s := range texts {
		if !same(answers(s), first[i]) {
			return s, true
		}
		i++
	}
	return "", false
}

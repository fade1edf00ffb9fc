package shell

import "strings"

const (
	maxDigits = 3
	maxNumber = 255
)

// Words gives the words of a line.
func Words(line string) []string {
	var words []string
	for piece := range strings.SplitSeq(line, " ") {
		if piece != "" { // as it is between two blanks
			words = append(words, strings.Clone(piece))
		}
	}
	return words
}

// usage tells whether a command is known, and whether it takes these arguments.
func usage(command string, args []string) (known, takes bool) {
	switch command {
	case "echo":
		return true, true
	case "whoami":
		return true, len(args) == 0
	case "cat", "ls", "mkdir", "rm":
		return true, len(args) == 1
	case "put":
		return true, len(args) >= 1
	case "chmod":
		return true, len(args) == 2 && isNumber(args[0])
	case "exit":
		return true, len(args) == 1 && isNumber(args[0])
	}
	return false, false
}

// isNumber tells whether a word, which is never empty, is a number; noughts ahead are digits like others.
func isNumber(word string) bool {
	if len(word) > maxDigits {
		return false
	}
	for i := range len(word) {
		if word[i] < '0' || word[i] > '9' {
			return false
		}
	}
	return value(word) <= maxNumber
}

// value gives the number that digits stand for.
func value(digits string) int {
	n := 0
	for i := range len(digits) {
		n = n*10 + int(digits[i]-'0')
	}
	return n
}

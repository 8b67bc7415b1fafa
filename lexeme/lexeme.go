// Package lexeme is layer 1: words and names; see shared/doc/01-lexeme.md.
package lexeme

import (
	"strconv"
	"strings"

	"permitoffice/api"
)

// Classes of bytes; those from digit on may be in a name.
const (
	foreign = iota // no byte of a text
	feed
	space
	sign
	digit
	letter
	underscore
)

// The table ends at 127: every greater byte is foreign.
var classes = [128]uint8{
	'\n': feed,
	' ':  space,
	'!':  sign, sign, sign, sign, sign, sign, sign, sign, sign, sign, sign, sign, sign, sign, sign,
	'0': digit, digit, digit, digit, digit, digit, digit, digit, digit, digit,
	':': sign, sign, sign, sign, sign, sign, sign,
	'A': letter, letter, letter, letter, letter, letter, letter, letter, letter, letter, letter, letter, letter,
	'N': letter, letter, letter, letter, letter, letter, letter, letter, letter, letter, letter, letter, letter,
	'[': sign, sign, sign, sign,
	'_': underscore,
	'`': sign,
	'a': letter, letter, letter, letter, letter, letter, letter, letter, letter, letter, letter, letter, letter,
	'n': letter, letter, letter, letter, letter, letter, letter, letter, letter, letter, letter, letter, letter,
	'{': sign, sign, sign, sign,
}

func classOf(b byte) uint8 {
	if int(b) >= len(classes) {
		return foreign
	}
	return classes[b]
}

// Name reports whether a string is a name.
func Name(s string) bool {
	if s == "" || len(s) > api.MaxName || classOf(s[0]) != letter {
		return false
	}
	for i := range len(s) {
		if classOf(s[i]) < digit {
			return false
		}
	}
	return true
}

// Words returns the parts of a line between spaces that are not empty.
func Words(line string) []string {
	var words []string
	start := 0
	for i := range len(line) {
		if classOf(line[i]) != space {
			continue
		}
		if start < i {
			words = append(words, line[start:i])
		}
		start = i + 1
	}
	if start < len(line) {
		words = append(words, line[start:])
	}
	return words
}

// Lines returns the lines of a text without their line feeds, or false if it is not a text.
func Lines(text string) ([]string, bool) {
	if len(text) > api.MaxText {
		return nil, false
	}
	var lines []string
	start := 0
	for i := range len(text) {
		switch classOf(text[i]) {
		case foreign:
			return nil, false
		case feed:
			lines = append(lines, text[start:i])
			start = i + 1
		}
	}
	if start < len(text) {
		return nil, false
	}
	return lines, true
}

// Number returns the number of a string of decimal digits without superfluous zeros, if it is at most most.
func Number(s string, most int) (int, bool) {
	if s == "" || len(s) > 1 && s[0] == '0' {
		return 0, false
	}
	n := 0
	for i := range len(s) {
		if classOf(s[i]) != digit {
			return 0, false
		}
		d := int(s[i] - '0')
		// n*10+d may overflow, and most-d too if most is negative: both are avoided.
		if d > most || n > (most-d)/10 {
			return 0, false
		}
		n = n*10 + d
	}
	return n, true
}

// Text returns the decimal digits of an integer.
func Text(n int) string {
	return strconv.Itoa(n)
}

// Join puts single spaces between words.
func Join(words []string) string {
	return strings.Join(words, " ")
}

package asm

import (
	"strings"

	"hibernacle/api"
)

// The kinds of tokens.
const (
	isWord = iota
	isNumber
	isComma
	isColon
	isOpening
	isClosing
	isQuote
)

const (
	marks = ",:()"
	signs = "0123456789abcdef"
	// Beyond this a number is out of every range, however many digits it has.
	huge = 1 << 40
)

// token is a token of a line: its text (of a quote its bytes), or its number.
type token struct {
	kind int
	text string
	n    int64
}

func isLetter(c byte) bool { return c >= 'a' && c <= 'z' || c >= 'A' && c <= 'Z' || c == '_' }
func isDigit(c byte) bool  { return c >= '0' && c <= '9' }

// tokens is what a line has, and whether all of it is tokens.
func tokens(line string) ([]token, bool) {
	var l []token
	for line != "" && line[0] != '#' {
		c := line[0]
		if c == ' ' || c == '\t' {
			line = line[1:]
			continue
		}
		t, size := oneToken(line)
		if size == 0 {
			return nil, false
		}
		l = append(l, t)
		line = line[size:]
	}
	return l, true
}

// oneToken is the token with which a line begins, and how many bytes it has (0, if there is none).
func oneToken(line string) (token, int) {
	c := line[0]
	if i := strings.IndexByte(marks, c); i >= 0 {
		return token{kind: isComma + i}, 1
	}
	switch {
	case isLetter(c):
		return wordToken(line)
	case isDigit(c) || c == '-':
		return numberToken(line)
	case c == '"':
		return quoteToken(line)
	}
	return token{}, 0
}

func wordToken(line string) (token, int) {
	n := 0
	for n < len(line) && (isLetter(line[n]) || isDigit(line[n])) {
		n++
	}
	return token{kind: isWord, text: line[:n]}, n
}

func numberToken(line string) (token, int) {
	i := 0
	below := line[0] == '-'
	if below {
		i = 1
	}
	begin := i
	var n int64
	for ; i < len(line) && isDigit(line[i]); i++ {
		n = min(10*n+int64(line[i]-'0'), huge)
	}
	if i == begin {
		return token{}, 0
	}
	if below {
		n = -n
	}
	return token{kind: isNumber, n: n}, i
}

func quoteToken(line string) (token, int) {
	var b []byte
	for i := 1; i < len(line); {
		c := line[i]
		switch {
		case c == '"':
			return token{kind: isQuote, text: string(b)}, i + 1
		case c < ' ' || c > '~':
			return token{}, 0
		case c != '\\':
			b = append(b, c)
			i++
		default:
			x, size := escaped(line[i:])
			if size == 0 {
				return token{}, 0
			}
			b = append(b, x)
			i += size
		}
	}
	return token{}, 0
}

// escaped is the byte that a backslash, and what is behind it, stands for, and how many signs that are.
func escaped(s string) (byte, int) {
	if len(s) < 2 {
		return 0, 0
	}
	switch s[1] {
	case '"', '\\':
		return s[1], 2
	case 'n':
		return '\n', 2
	case 'x':
		if len(s) < 4 {
			return 0, 0
		}
		high, low := strings.IndexByte(signs, s[2]), strings.IndexByte(signs, s[3])
		if high >= 0 && low >= 0 {
			return byte(16*high + low), 4
		}
	}
	return 0, 0
}

// quote is bytes as a quote, in the fewest signs.
func quote(data string) string {
	b := []byte{'"'}
	for i := range len(data) {
		c := data[i]
		switch {
		case c == '"' || c == '\\':
			b = append(b, '\\', c)
		case c == '\n':
			b = append(b, '\\', 'n')
		case c < ' ' || c > '~':
			b = append(b, '\\', 'x', signs[c/16], signs[c%16])
		default:
			b = append(b, c)
		}
	}
	return string(append(b, '"'))
}

// lines is the lines of a text.
func lines(text string) []string {
	l := strings.Split(text, "\n")
	if l[len(l)-1] == "" {
		l = l[:len(l)-1]
	}
	return l
}

func tooLong(text string) bool {
	return len(text) > api.MaxText || len(lines(text)) > api.MaxLines
}

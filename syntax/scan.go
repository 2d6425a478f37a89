// Package syntax reads the text of a model: its tokens, and the tree that they make.
package syntax

import "strings"

const symbols = "()[]{}:;,!&|+-<="

// Token is a piece of the text and the number of its first byte. The one behind the last has no text, and the text's length as its place.
type Token struct {
	Text string
	At   int
}

// Scan cuts a text into tokens. If it can't, ok is false, and bad is the first byte at which no token begins.
func Scan(text string) (tokens []Token, bad int, ok bool) {
	at := 0
	for at < len(text) {
		if isBlank(text[at]) {
			at++
			continue
		}
		n := tokenLength(text[at:])
		if n == 0 {
			return nil, at, false
		}
		tokens = append(tokens, Token{Text: text[at : at+n], At: at})
		at += n
	}
	return append(tokens, Token{Text: "", At: len(text)}), 0, true
}

// tokenLength is 0 if no token begins where rest, which is not empty, does.
func tokenLength(rest string) int {
	switch {
	case isLetter(rest[0]):
		return wordLength(rest)
	case isDigit(rest[0]):
		if len(rest) > 1 && isDigit(rest[1]) {
			return 0
		}
		return 1
	case strings.HasPrefix(rest, "==") || strings.HasPrefix(rest, "!="):
		return 2
	case strings.IndexByte(symbols, rest[0]) >= 0:
		return 1
	}
	return 0
}

func wordLength(rest string) int {
	n := 0
	for n < len(rest) && isLetter(rest[n]) {
		n++
	}
	return n
}

func isBlank(b byte) bool  { return b == ' ' || b == '\n' }
func isLetter(b byte) bool { return 'a' <= b && b <= 'z' }
func isDigit(b byte) bool  { return '0' <= b && b <= '9' }

func (t Token) isDigit() bool { return t.Text != "" && isDigit(t.Text[0]) }

func (t Token) isName() bool {
	return t.Text != "" && isLetter(t.Text[0]) && !isReserved(t.Text)
}

func isReserved(word string) bool {
	switch word {
	case "set", "kind", "var", "bool", "to", "rule", "if", "else", "never", "true", "false", "none":
		return true
	}
	return false
}

// Package glyph is layer 2: see shared/doc/02-glyph.md.
package glyph

import (
	"iter"
	"slices"
	"strconv"
	"strings"

	"tumbler/api"
)

// The kinds of a token.
const (
	Word   = 0
	Number = 1
	Sign   = 2
	End    = 3
)

// signs is the row of all signs.
const signs = "←+-×%=<[]:$,"

// Token is a word, a number, a sign, or a line's end; At is from which byte on it stands, Line in which line.
type Token struct {
	Kind     int
	Text     string
	Num      uint64
	At, Line int
}

// Lex is a text's tokens; with an error, where it is.
func Lex(text string) ([]Token, int, api.Errno) {
	if len(text) > api.MaxText {
		return nil, 0, api.ErrLong
	}
	var list []Token
	line := 0
	for at, piece := range pieces(text) {
		t, e := read(piece)
		// What is wrong in itself is told even where there is no room for it.
		if e == api.OK && len(list) == api.MaxTokens {
			e = api.ErrMany
		}
		if e != api.OK {
			return nil, at, e
		}
		t.At, t.Line = at, line
		if t.Kind == End {
			line++
		}
		list = append(list, t)
	}
	return list, 0, api.OK
}

// pieces is what would be tokens of a text, each with the byte from which on it stands: whole runs, and each other rune, or stray byte, that isn't blank and stands in no remark.
func pieces(text string) iter.Seq2[int, string] {
	return func(yield func(int, string) bool) {
		from, run, remark := -1, false, false
		for at, r := range text {
			if run && goesOn(r) {
				continue
			}
			// How many bytes a rune has shows only where the next one stands: U+FFFD has three, a stray byte that reads as it has one.
			if from >= 0 && !yield(from, text[from:at]) {
				return
			}
			remark = r == '#' || remark && r != '\n'
			run = !remark && begins(r)
			from = -1
			if !remark && !isBlank(r) {
				from = at
			}
		}
		if from >= 0 {
			yield(from, text[from:])
		}
	}
}

// read is the token that a piece is, but where it stands.
func read(piece string) (Token, api.Errno) {
	first := rune(piece[0])
	switch {
	case first == '\n':
		return Token{Kind: End}, api.OK
	case isDigit(first):
		return readNumber(piece)
	case isLetter(first):
		return readWord(piece)
	}
	return readSign(piece)
}

func readNumber(piece string) (Token, api.Errno) {
	num, err := strconv.ParseUint(piece, 10, 64)
	if err != nil || len(piece) > 1 && piece[0] == '0' {
		return Token{}, api.ErrNumber
	}
	return Token{Kind: Number, Num: num}, api.OK
}

func readWord(piece string) (Token, api.Errno) {
	if len(piece) > api.MaxName {
		return Token{}, api.ErrWord
	}
	// A copy, so that a word doesn't keep the whole text.
	return Token{Kind: Word, Text: strings.Clone(piece)}, api.OK
}

func readSign(piece string) (Token, api.Errno) {
	for _, r := range signs {
		if sign := string(r); sign == piece {
			return Token{Kind: Sign, Text: sign}, api.OK
		}
	}
	return Token{}, api.ErrChar
}

// begins tells whether a run begins with a rune.
func begins(r rune) bool { return isLetter(r) || isDigit(r) }

// goesOn tells whether a run goes on with a rune.
func goesOn(r rune) bool { return begins(r) || r == '.' }

func isLetter(r rune) bool { return r >= 'a' && r <= 'z' || r >= 'A' && r <= 'Z' || r == '_' }

func isDigit(r rune) bool { return r >= '0' && r <= '9' }

func isBlank(r rune) bool { return r == ' ' || r == '\t' || r == '\r' }

// Print is tokens as text.
func Print(list []Token) string {
	var b strings.Builder
	// What was printed last is asked of the kinds, not of the bytes: a word that is handed in may be bare, or end in a byte 10.
	fresh := true
	for _, t := range list {
		if t.Kind < Word || t.Kind > End {
			continue
		}
		if !fresh && t.Kind != End {
			b.WriteByte(' ')
		}
		b.WriteString(written(t))
		fresh = t.Kind == End
	}
	return b.String()
}

// written is a token as it is printed, without a blank.
func written(t Token) string {
	switch t.Kind {
	case Number:
		return strconv.FormatUint(t.Num, 10)
	case End:
		return "\n"
	}
	return t.Text
}

// Lines is tokens, line by line, without the ends.
func Lines(list []Token) iter.Seq[[]Token] {
	// The lines are gone through behind this call, when the list may be another one already.
	kept := slices.Clone(list)
	return func(yield func([]Token) bool) {
		from := 0
		for i, t := range kept {
			if t.Kind != End {
				continue
			}
			if !yield(slices.Clone(kept[from:i])) {
				return
			}
			from = i + 1
		}
		if from < len(kept) {
			yield(slices.Clone(kept[from:]))
		}
	}
}

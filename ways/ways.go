// Package ways: where the cursor goes (P6), and what a verb takes of that.
package ways

import "nib/text"

// Kind says what a verb takes of a way.
type Kind int

const (
	Out   Kind = iota // not the place itself
	In                // the place, too
	Lines             // the lines of both ends and all between
)

// Start is what a way hangs on.
type Start struct {
	Text   text.Text
	At     int
	Count  int // 0: without a number
	Verb   bool
	Change bool // the verb is c
}

// Goal is where a way leads.
type Goal struct {
	At   int
	Kind Kind
}

// Taken is what a verb takes of a way.
func (s Start) Taken(goal Goal) text.Piece {
	stretch := text.Stretch{min(s.At, goal.At), max(s.At, goal.At)}
	switch goal.Kind {
	case In:
		stretch[1]++
	case Lines:
		return s.Text.Lines(stretch[0], stretch[1])
	}
	return text.Piece{Stretch: stretch}
}

// FirstLine is the way gg: its first key is not needed to tell it from the others.
const FirstLine = 'g'

// Go goes the way of a key; not, if the way fails or the key is none of a way.
func Go(key byte, s Start) (Goal, bool) {
	switch key {
	case 'h', 'l', '0', '^', '$':
		return s.inLine(key)
	case 'j', 'k':
		return s.toLine(key)
	case 'G', FirstLine:
		return s.toNumber(key)
	case 'w', 'W':
		return s.toWord(key == 'W')
	case 'b', 'B':
		return s.toWordAhead(key == 'B')
	case 'e', 'E':
		return s.toWordEnd(key == 'E')
	case '}':
		return s.toParagraph(text.Down)
	case '{':
		return s.toParagraph(text.Up)
	case '%':
		return s.toPartner()
	}
	return Goal{}, false
}

func (s Start) number() int { return max(s.Count, 1) }

func (s Start) line() text.Stretch { return s.Text.Line(s.At) }

// unlessHere fails a way that leads to where it began.
func (s Start) unlessHere(place int, kind Kind) (Goal, bool) {
	if place == s.At {
		return Goal{}, false
	}
	return Goal{place, kind}, true
}

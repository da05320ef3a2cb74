// Package verbs: what is done to a piece of a text (P7).
package verbs

import "nib/text"

// Verbs are known by their last keys.
const (
	Delete = 'd'
	Change = 'c'
	Copy   = 'y'
	Right  = '>'
	Left   = '<'
	Small  = 'u'
	Great  = 'U'
)

// Writes tells whether a verb writes what it takes into registers.
func Writes(verb byte) bool { return verb == Delete || verb == Change || verb == Copy }

// Do is the text that a verb makes, and where the cursor is to be then; it was at a place.
func Do(verb byte, t text.Text, piece text.Piece, at int) (text.Text, int) {
	switch verb {
	case Delete:
		return without(t, piece)
	case Change:
		return t.With(piece.Stretch, ""), piece.Stretch[0]
	case Right, Left:
		return shifted(verb, t, piece)
	case Small:
		return t.With(piece.Stretch, text.Each(t.Of(piece.Stretch), text.Small)), backTo(t, piece, at)
	case Great:
		return t.With(piece.Stretch, text.Each(t.Of(piece.Stretch), text.Great)), backTo(t, piece, at)
	}
	return t, backTo(t, piece, at)
}

func without(t text.Text, piece text.Piece) (text.Text, int) {
	if !piece.Lines {
		return t.With(piece.Stretch, ""), piece.Stretch[0]
	}
	after := t.With(withEnds(t, piece.Stretch), "")
	line := after.Line(min(piece.Stretch[0], after.End()))
	return after, after.First(line)
}

// withEnds is lines and what ends them; the last line goes with what ends the one above.
func withEnds(t text.Text, lines text.Stretch) text.Stretch {
	switch {
	case lines[1] < t.End():
		lines[1]++
	case lines[0] > 0:
		lines[0]--
	}
	return lines
}

// backTo is where the cursor is behind a verb that leaves all in its place.
func backTo(t text.Text, piece text.Piece, at int) int {
	if !piece.Lines {
		return piece.Stretch[0]
	}
	first, own := t.Line(piece.Stretch[0]), t.Line(at)
	if first == own {
		return at
	}
	return first.Column(at - own[0])
}

// Package objects: what a verb is done to around the cursor (P8).
package objects

import "nib/text"

// Place is what an object hangs on.
type Place struct {
	Text  text.Text
	At    int
	Whole bool // an object of a, not of i
}

// Find is the object of a key; not, if it is not there or the key is none of an object.
func Find(key byte, p Place) (text.Piece, bool) {
	switch key {
	case 'w', 'W':
		return p.word(key == 'W')
	case '(', ')', '[', ']', '{', '}':
		return p.brackets(key)
	case '"', '\'':
		return p.quotes(key)
	case 'p':
		return p.paragraph()
	}
	return text.Piece{}, false
}

func (p Place) brackets(key byte) (text.Piece, bool) {
	pair, is := p.Text.Around(p.At, key)
	if !is {
		return text.Piece{}, false
	}
	return p.pair(pair), true
}

// quotes: the bytes of a kind belong together two by two, from the line's beginning on.
func (p Place) quotes(key byte) (text.Piece, bool) {
	line := p.Text.Line(p.At)
	first, opened := 0, false
	for place := line[0]; place < line[1]; place++ {
		switch {
		case p.Text[place] != key:
			continue
		case opened && place >= p.At:
			return p.pair(text.Stretch{first, place + 1}), true
		}
		first, opened = place, !opened
	}
	return text.Piece{}, false
}

// pair is what two bytes stand around, or that with both of them.
func (p Place) pair(both text.Stretch) text.Piece {
	if p.Whole {
		return text.Piece{Stretch: both}
	}
	return text.Piece{Stretch: text.Stretch{both[0] + 1, both[1] - 1}}
}

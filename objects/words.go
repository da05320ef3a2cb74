package objects

import "nib/text"

func (p Place) word(great bool) (text.Piece, bool) {
	run := p.Text.Run(p.At, great)
	switch {
	case run.IsEmpty():
		return text.Piece{}, false
	case !p.Whole:
		return text.Piece{Stretch: run}, true
	case p.isBlanks(run):
		return p.blanksAndWord(run, great)
	}
	return text.Piece{Stretch: p.wordAndBlanks(run, great)}, true
}

func (p Place) blanksAndWord(blanks text.Stretch, great bool) (text.Piece, bool) {
	behind := p.Text.Run(blanks[1], great)
	if behind.IsEmpty() {
		return text.Piece{}, false
	}
	return text.Piece{Stretch: blanks.Join(behind)}, true
}

// wordAndBlanks: only if there are no blanks behind a word those ahead of it go with it.
func (p Place) wordAndBlanks(word text.Stretch, great bool) text.Stretch {
	if behind := p.Text.Run(word[1], great); p.isBlanks(behind) {
		return word.Join(behind)
	}
	if ahead := p.Text.Run(max(word[0]-1, 0), great); p.isBlanks(ahead) {
		return word.Join(ahead)
	}
	return word
}

func (p Place) isBlanks(run text.Stretch) bool {
	return !run.IsEmpty() && text.ClassOf(p.Text[run[0]], false) == text.Blank
}

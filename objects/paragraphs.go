package objects

import "nib/text"

func (p Place) paragraph() (text.Piece, bool) {
	own := alike(p.Text, p.Text.Line(p.At))
	if !p.Whole {
		return text.Piece{Stretch: own, Lines: true}, true
	}
	for _, direction := range [2]int{text.Down, text.Up} {
		if beside, is := p.Text.Beside(own, direction); is {
			return text.Piece{Stretch: own.Join(alike(p.Text, beside)), Lines: true}, true
		}
	}
	return text.Piece{}, false
}

// alike is the lines around one that are empty like it, or not empty like it.
func alike(t text.Text, line text.Stretch) text.Stretch {
	all := line
	for _, direction := range [2]int{text.Down, text.Up} {
		next, is := t.Beside(all, direction)
		for is && next.IsEmpty() == line.IsEmpty() {
			all = all.Join(next)
			next, is = t.Beside(all, direction)
		}
	}
	return all
}

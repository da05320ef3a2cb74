package ways

import "nib/text"

func (s Start) inLine(key byte) (Goal, bool) {
	line := s.line()
	switch key {
	case 'h':
		return s.unlessHere(max(s.At-s.number(), line[0]), Out)
	case 'l':
		return s.unlessHere(min(s.At+s.number(), s.furthest(line)), Out)
	case '0':
		return Goal{line[0], Out}, true
	case '^':
		return Goal{s.Text.First(line), Out}, true
	}
	return s.toLineEnd()
}

// furthest: only a verb reaches the byte at a line's last place by going behind it.
func (s Start) furthest(line text.Stretch) int {
	if s.Verb {
		return line[1]
	}
	return line.Last()
}

func (s Start) toLineEnd() (Goal, bool) {
	below := s.number() - 1
	line, gone := s.Text.Further(s.line(), below, text.Down)
	switch {
	case gone < below:
		return Goal{}, false
	case line.IsEmpty():
		return Goal{line[0], Out}, true
	}
	return Goal{line.Last(), In}, true
}

func (s Start) toLine(key byte) (Goal, bool) {
	direction := text.Down
	if key == 'k' {
		direction = text.Up
	}
	from := s.line()
	line, gone := s.Text.Further(from, s.number(), direction)
	if gone < s.number() {
		return Goal{}, false
	}
	return Goal{line.Column(s.At - from[0]), Lines}, true
}

func (s Start) toNumber(key byte) (Goal, bool) {
	line := s.Text.Line(s.Text.End())
	if s.Count > 0 || key == FirstLine {
		line, _ = s.Text.Further(s.Text.Line(0), s.number()-1, text.Down)
	}
	return Goal{s.Text.First(line), Lines}, true
}

func (s Start) toParagraph(direction int) (Goal, bool) {
	place := s.At
	for range s.number() {
		place = paragraphStep(s.Text, place, direction)
	}
	if !s.Verb {
		place = min(place, s.Text.Line(place).Last())
	}
	return s.unlessHere(place, Out)
}

func paragraphStep(t text.Text, from, direction int) int {
	line := t.Line(from)
	for {
		next, is := t.Beside(line, direction)
		switch {
		case !is && direction == text.Down:
			return t.End()
		case !is:
			return 0
		case next.IsEmpty() && !line.IsEmpty():
			return next[0]
		}
		line = next
	}
}

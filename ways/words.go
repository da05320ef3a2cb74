package ways

import "nib/text"

func (s Start) toWord(great bool) (Goal, bool) {
	if s.Change && hasInk(s.Text, s.At) {
		return s.toOwnEnd(great), true
	}
	from, place := s.At, s.At
	for range s.number() {
		from, place = place, wordStep(s.Text, place, great)
	}
	if s.Verb {
		return s.unlessHere(keptInLine(s.Text, from, place), Out)
	}
	lastLine := s.Text.Line(s.Text.End())
	return s.unlessHere(min(place, lastLine.Last()), Out)
}

// keptInLine: a verb on a line's last word leaves the line's end alone.
func keptInLine(t text.Text, from, place int) int {
	line := t.Line(from)
	if t.Line(place) != line && from != line[1] {
		return line[1]
	}
	return place
}

func wordStep(t text.Text, from int, great bool) int {
	place := from
	if hasInk(t, from) {
		place = t.Run(from, great)[1]
	}
	return nextInk(t, place, true)
}

func (s Start) toWordEnd(great bool) (Goal, bool) {
	place := s.At
	for range s.number() {
		place = wordEndStep(s.Text, place, great)
	}
	return s.unlessHere(place, In)
}

// toOwnEnd is the way of cw, which leaves the blanks behind a word alone: the end of the word at the cursor counts, even if the cursor is there.
func (s Start) toOwnEnd(great bool) Goal {
	place := s.Text.Run(s.At, great)[1] - 1
	for range s.number() - 1 {
		place = wordEndStep(s.Text, place, great)
	}
	return Goal{place, In}
}

// wordEndStep stays where it is if no word is left.
func wordEndStep(t text.Text, from int, great bool) int {
	if from == t.End() {
		return from
	}
	place := nextInk(t, from+1, false)
	if place == t.End() {
		return from
	}
	return t.Run(place, great)[1] - 1
}

// nextInk goes on over blanks and line ends, and stops at an empty line below if it is told to; if there is nothing it comes to the text's end.
func nextInk(t text.Text, place int, stopsAtEmpty bool) int {
	line, more := t.Line(place), true
search:
	for more {
		for place = max(place, line[0]); place < line[1]; place++ {
			if hasInk(t, place) {
				break search
			}
		}
		line, more = t.Beside(line, text.Down)
		if more && stopsAtEmpty && line.IsEmpty() {
			place = line[0]
			break search
		}
	}
	return place
}

// hasInk: does a byte of a word or a sign stand at a place?
func hasInk(t text.Text, place int) bool {
	if place == t.End() {
		return false
	}
	class := text.ClassOf(t[place], false)
	return class == text.Word || class == text.Sign
}

func (s Start) toWordAhead(great bool) (Goal, bool) {
	place := s.At
	for range s.number() {
		place = wordStepAhead(s.Text, place, great)
	}
	return s.unlessHere(place, Out)
}

func wordStepAhead(t text.Text, from int, great bool) int {
	if from == 0 {
		return 0
	}
	return t.Run(inkAhead(t, from-1), great)[0]
}

// inkAhead goes ahead over blanks and line ends, to an empty line at most; if there is nothing it comes to 0.
func inkAhead(t text.Text, place int) int {
	line, more := t.Line(place), true
search:
	for more {
		if line.IsEmpty() {
			break search
		}
		for ; place >= line[0]; place-- {
			if hasInk(t, place) {
				break search
			}
		}
		line, more = t.Beside(line, text.Up)
	}
	return max(place, 0)
}

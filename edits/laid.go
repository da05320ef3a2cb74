package edits

import (
	"strings"

	"nib/text"
)

// Laid lays what a register has, which may be lines, behind the cursor or at it.
func (s Spot) Laid(what string, lines, behind bool) (text.Text, int, bool) {
	all := strings.Repeat(what, s.Count)
	switch {
	case what == "":
		return "", 0, false
	case lines && behind:
		return s.linesBelow(all)
	case lines:
		return s.linesAbove(all)
	}
	place := s.At
	if behind {
		place = min(s.At+1, s.Text.Line(s.At)[1])
	}
	return s.Text.With(text.Stretch{place, place}, all), place + len(all) - 1, true
}

// linesBelow: the last line of a text has no byte 10 behind it, so each one comes with that ahead.
func (s Spot) linesBelow(lines string) (text.Text, int, bool) {
	end := s.Text.Line(s.At)[1]
	after := s.Text.With(text.Stretch{end, end}, "\n"+strings.TrimSuffix(lines, "\n"))
	return after, after.First(after.Line(end + 1)), true
}

func (s Spot) linesAbove(lines string) (text.Text, int, bool) {
	begin := s.Text.Line(s.At)[0]
	after := s.Text.With(text.Stretch{begin, begin}, lines)
	return after, after.First(after.Line(begin)), true
}

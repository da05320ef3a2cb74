package ways

import (
	"strings"

	"nib/text"
)

// Each bracket that opens, and right behind it the one that closes.
const brackets = "()[]{}"

func (s Start) toPartner() (Goal, bool) {
	line := s.line()
	length := strings.IndexAny(string(s.Text[s.At:line[1]]), brackets)
	if length < 0 {
		return Goal{}, false
	}
	place, is := partner(s.Text, s.At+length)
	if !is {
		return Goal{}, false
	}
	return Goal{place, In}, true
}

// partner is the place of the bracket that belongs to the one at a place.
func partner(t text.Text, from int) (int, bool) {
	own := t[from]
	kind := strings.IndexByte(brackets, own)
	other, direction := brackets[kind^1], text.Down
	if kind%2 == 1 {
		direction = text.Up
	}
	depth, place := 0, from
	line, more := t.Line(from), true
search:
	for more {
		for ; line[0] <= place && place < line[1]; place += direction {
			switch t[place] {
			case own:
				depth++
			case other:
				depth--
				if depth == 0 {
					break search
				}
			}
		}
		line, more = t.Beside(line, direction)
		place = line[0]
		if direction == text.Up {
			place = line[1] - 1
		}
	}
	if !more {
		return 0, false
	}
	return place, true
}

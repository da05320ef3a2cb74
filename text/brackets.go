package text

import "strings"

// Brackets: each one that opens, and right behind it the one that closes.
const Brackets = "()[]{}"

// Partner is the place of the bracket that belongs to the one at a place.
func (t Text) Partner(place int) (int, bool) { return t.seekPartner(t[place], place, 0) }

// Around is the brackets of a kind, named by either of them, that are nearest around a place, and what is between; a bracket at the place itself is one of the two.
func (t Text) Around(place int, bracket byte) (Stretch, bool) {
	closing := Brackets[strings.IndexByte(Brackets, bracket)|1]
	depth := 1
	if place < len(t) && t[place] == closing {
		depth = 0
	}
	first, is := t.seekPartner(closing, place, depth)
	if !is {
		return Stretch{}, false
	}
	last, is := t.Partner(first)
	if !is {
		return Stretch{}, false
	}
	return Stretch{first, last + 1}, true
}

// seekPartner goes from a place on to where as many of the other bracket stood as of a bracket's own kind; the depth says how many of its own are counted already.
func (t Text) seekPartner(own byte, place, depth int) (int, bool) {
	kind := strings.IndexByte(Brackets, own)
	other, direction := Brackets[kind^1], Down
	if kind%2 == 1 {
		direction = Up
	}
	line, more := t.Line(place), true
search:
	for more {
		if direction == Down {
			place = max(place, line[0])
		} else {
			place = min(place, line[1]-1)
		}
		for ; line[0] <= place && place < line[1]; place += direction {
			switch t[place] {
			case own:
				depth++
			case other:
				depth--
				if depth == 0 {
					break search
				}
			}
		}
		line, more = t.Beside(line, direction)
	}
	if !more {
		return 0, false
	}
	return place, true
}

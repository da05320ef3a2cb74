// Package text: bytes as lines, runs and places (DOC.md, 'Words').
package text

import "strings"

// Text is what is edited.
type Text string

// Stretch is from a place to a place; the second one is not in it.
type Stretch [2]int

// Directions in which lines and bytes are gone through.
const (
	Down = 1
	Up   = -1
)

const lineEnd = 10

// IsEmpty tells whether a stretch begins where it ends.
func (s Stretch) IsEmpty() bool { return s[0] == s[1] }

// Last is the place ahead of a line's end; of an empty line its beginning.
func (s Stretch) Last() int { return max(s[0], s[1]-1) }

// Column is the place in a column of a line, at most its last one.
func (s Stretch) Column(column int) int { return min(s[0]+column, s.Last()) }

// Join is from where the first of two stretches begins to where the last one ends.
func (s Stretch) Join(other Stretch) Stretch {
	return Stretch{min(s[0], other[0]), max(s[1], other[1])}
}

// End is the text's end, the greatest place.
func (t Text) End() int { return len(t) }

// Line is the line that a place is in, without its byte 10.
func (t Text) Line(place int) Stretch {
	line := Stretch{strings.LastIndexByte(string(t[:place]), lineEnd) + 1, len(t)}
	if length := strings.IndexByte(string(t[place:]), lineEnd); length >= 0 {
		line[1] = place + length
	}
	return line
}

// Beside is the line next to one, in a direction, if there is any.
func (t Text) Beside(line Stretch, direction int) (Stretch, bool) {
	switch {
	case direction == Down && line[1] < len(t):
		return t.Line(line[1] + 1), true
	case direction == Up && line[0] > 0:
		return t.Line(line[0] - 1), true
	}
	return Stretch{}, false
}

// Further is the line that is some lines away, and how many lines were there to go.
func (t Text) Further(line Stretch, lines, direction int) (Stretch, int) {
	for gone := range lines {
		next, is := t.Beside(line, direction)
		if !is {
			return line, gone
		}
		line = next
	}
	return line, lines
}

// Indent is the blanks that a line has ahead.
func (t Text) Indent(line Stretch) Stretch {
	blanks := Stretch{line[0], line[0]}
	for blanks[1] < line[1] && ClassOf(t[blanks[1]], false) == Blank {
		blanks[1]++
	}
	return blanks
}

// First is the place of a line's first byte that is no blank; if all are, its last place.
func (t Text) First(line Stretch) int { return min(t.Indent(line)[1], line.Last()) }

// Run is the run that a place is in; at a line's end it is empty.
func (t Text) Run(place int, great bool) Stretch {
	run := Stretch{place, place}
	if place == len(t) || t[place] == lineEnd {
		return run
	}
	class := ClassOf(t[place], great)
	for run[0] > 0 && ClassOf(t[run[0]-1], great) == class {
		run[0]--
	}
	for run[1] < len(t) && ClassOf(t[run[1]], great) == class {
		run[1]++
	}
	return run
}

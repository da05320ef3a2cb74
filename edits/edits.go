// Package edits: what commands make of a text that need no verb and no piece: p, P, r, ~ and J (P9).
package edits

import (
	"strings"

	"nib/text"
)

// Spot is where an edit is done, and how often. Each edit is the text that it makes, where the cursor is to be then, and whether it can be done.
type Spot struct {
	Text  text.Text
	At    int
	Count int
}

// Replaced makes all bytes that are counted one and the same.
func (s Spot) Replaced(c byte) (text.Text, int, bool) {
	bytes := s.counted()
	if bytes[1]-bytes[0] < s.Count {
		return "", 0, false
	}
	return s.Text.With(bytes, strings.Repeat(string([]byte{c}), s.Count)), bytes.Last(), true
}

// Turned makes small letters great, and great ones small.
func (s Spot) Turned() (text.Text, int, bool) {
	bytes := s.counted()
	if bytes.IsEmpty() {
		return "", 0, false
	}
	return s.Text.With(bytes, text.Each(s.Text.Of(bytes), text.Turned)), bytes[1], true
}

// counted is as many bytes from the cursor on as the number says, if the line has so many.
func (s Spot) counted() text.Stretch {
	return text.Stretch{s.At, min(s.At+s.Count, s.Text.Line(s.At)[1])}
}

// Joined makes one line of many; the cursor is where the last one came to the others.
func (s Spot) Joined() (text.Text, int, bool) {
	line := s.Text.Line(s.At)
	last, below := s.Text.Further(line, max(s.Count, 2)-1, text.Down)
	if below == 0 {
		return "", 0, false
	}
	lines := line.Join(last)
	joined, joint := joinedLines(strings.Split(s.Text.Of(lines), "\n"))
	return s.Text.With(lines, joined), line[0] + joint, true
}

func joinedLines(lines []string) (joined string, joint int) {
	joined = lines[0]
	for _, line := range lines[1:] {
		joint = len(joined)
		rest := strings.TrimLeft(line, " \t")
		if joined != "" && rest != "" {
			joined += " "
		}
		joined += rest
	}
	return joined, joint
}

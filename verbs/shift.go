package verbs

import (
	"strings"

	"nib/api"
	"nib/text"
)

// shifted moves all lines of which something is taken.
func shifted(verb byte, t text.Text, piece text.Piece) (text.Text, int) {
	lines := piece.Stretch
	if !piece.Lines {
		lines = t.Lines(lines[0], lines.Last()).Stretch
	}
	each := strings.Split(t.Of(lines), "\n")
	for i, line := range each {
		each[i] = shiftedLine(verb, line)
	}
	after := t.With(lines, strings.Join(each, "\n"))
	return after, after.First(after.Line(lines[0]))
}

func shiftedLine(verb byte, line string) string {
	step := strings.Repeat(" ", api.Step)
	switch {
	case verb == Right && line != "":
		return step + line
	case verb == Left:
		ahead := len(line) - len(strings.TrimLeft(line, " "))
		return line[min(ahead, api.Step):]
	}
	return line
}

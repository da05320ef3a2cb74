package verbs

import (
	"strings"
	"testing"

	"nib/text"
)

// literal does the verbs of P7 to lists of lines, with nothing of what the package does.
type literal struct {
	lines       []string
	first, last int // which lines are taken, or have something taken
	ofLines     bool
	row, column int // where the cursor was
}

func literally(t text.Text, piece text.Piece, at int) literal {
	content := string(t)
	last := piece.Stretch[1]
	if !piece.Lines {
		last--
	}
	row := strings.Count(content[:at], "\n")
	return literal{
		lines: strings.Split(content, "\n"), ofLines: piece.Lines,
		first: strings.Count(content[:piece.Stretch[0]], "\n"), last: strings.Count(content[:last], "\n"),
		row: row, column: at - strings.LastIndex(content[:at], "\n") - 1,
	}
}

func (l literal) begin(row int) int {
	begin := 0
	for _, line := range l.lines[:row] {
		begin += len(line) + 1
	}
	return begin
}

func (l literal) firstPlace(row int) int {
	line := l.lines[row]
	for i := range len(line) {
		if line[i] != ' ' && line[i] != '\t' {
			return l.begin(row) + i
		}
	}
	return l.begin(row) + max(len(line)-1, 0)
}

func (l literal) text() text.Text { return text.Text(strings.Join(l.lines, "\n")) }

// delete takes lines away.
func (l literal) delete() (text.Text, int) {
	rest := append(append([]string{}, l.lines[:l.first]...), l.lines[l.last+1:]...)
	if len(rest) == 0 {
		return "", 0
	}
	l.lines = rest
	return l.text(), l.firstPlace(min(l.first, len(rest)-1))
}

func (l literal) change() (text.Text, int) {
	l.lines = append(append(append([]string{}, l.lines[:l.first]...), ""), l.lines[l.last+1:]...)
	return l.text(), l.begin(l.first)
}

func (l literal) shift(verb byte) (text.Text, int) {
	for i := l.first; i <= l.last; i++ {
		switch {
		case verb == '>' && len(l.lines[i]) > 0:
			l.lines[i] = "  " + l.lines[i]
		case verb == '<':
			l.lines[i] = strings.TrimPrefix(strings.TrimPrefix(l.lines[i], " "), " ")
		}
	}
	return l.text(), l.firstPlace(l.first)
}

// above is the cursor of y, gu and gU, of lines.
func (l literal) above(at int) int {
	if l.first >= l.row {
		return at
	}
	return l.begin(l.first) + max(min(l.column, len(l.lines[l.first])-1), 0)
}

func (l literal) do(verb byte, t text.Text, piece text.Piece, at int) (text.Text, int) {
	from, to := piece.Stretch[0], piece.Stretch[1]
	switch {
	case verb == '>' || verb == '<':
		return l.shift(verb)
	case verb == 'd' && l.ofLines:
		return l.delete()
	case verb == 'c' && l.ofLines:
		return l.change()
	case verb == 'd' || verb == 'c':
		return t[:from] + t[to:], from
	}
	after := t
	switch verb {
	case 'u':
		after = t[:from] + text.Text(strings.ToLower(string(t[from:to]))) + t[to:]
	case 'U':
		after = t[:from] + text.Text(strings.ToUpper(string(t[from:to]))) + t[to:]
	}
	if l.ofLines {
		return after, l.above(at)
	}
	return after, from
}

// eachPiece goes through all stretches that take something, and all lines, of all texts of these bytes up to a length; of lines with the cursor at each place of them.
func eachPiece(bytes string, length int, do func(text.Text, text.Piece, int)) {
	all := []string{""}
	for i := 0; i < len(all); i++ {
		if len(all[i]) < length {
			for j := range len(bytes) {
				all = append(all, all[i]+bytes[j:j+1])
			}
		}
		content := text.Text(all[i])
		for from := range len(content) + 1 {
			for to := from; to <= len(content); to++ {
				if from < to {
					do(content, text.Piece{Stretch: text.Stretch{from, to}}, from)
				}
				begins := from == 0 || content[from-1] == '\n'
				ends := to == len(content) || content[to] == '\n'
				for at := from; begins && ends && at <= to; at++ {
					do(content, text.Piece{Stretch: text.Stretch{from, to}, Lines: true}, at)
				}
			}
		}
	}
}

func TestLiterally(t *testing.T) {
	eachPiece("a \n", 6, func(content text.Text, piece text.Piece, at int) { compare(t, "dcy><", content, piece, at) })
	eachPiece("aB\n", 5, func(content text.Text, piece text.Piece, at int) { compare(t, "uU", content, piece, at) })
	eachPiece("a \t\n", 4, func(content text.Text, piece text.Piece, at int) { compare(t, "d><", content, piece, at) })
}

func compare(t *testing.T, keys string, content text.Text, piece text.Piece, at int) {
	t.Helper()
	for _, verb := range []byte(keys) {
		got, to := Do(verb, content, piece, at)
		want, wants := literally(content, piece, at).do(verb, content, piece, at)
		if got != want || to != wants {
			t.Fatalf("P7: %c of %q, %v, from %d: %q, at %d, want %q, %d", verb, content, piece, at, got, to, want, wants)
		}
	}
}

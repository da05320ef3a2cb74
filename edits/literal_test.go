package edits

import (
	"strings"
	"testing"

	"nib/text"
)

// literal makes the edits of P9 as the document's sentences say them, byte by byte or by lists of lines, with nothing of what the package does.
type literal struct {
	text  string
	at, n int
}

// ends: the place is a line's end.
func (l literal) ends(place int) bool { return place == len(l.text) || l.text[place] == 10 }

func (l literal) replaced(c byte) made {
	bytes := []byte(l.text)
	for i := range l.n {
		if l.ends(l.at + i) {
			return made{}
		}
		bytes[l.at+i] = c
	}
	return made{text.Text(bytes), l.at + l.n - 1, true}
}

func (l literal) turned() made {
	after, place := l.text[:l.at], l.at
	for ; place < l.at+l.n && !l.ends(place); place++ {
		c := l.text[place : place+1]
		if c == strings.ToUpper(c) {
			after += strings.ToLower(c)
		} else {
			after += strings.ToUpper(c)
		}
	}
	if place == l.at {
		return made{}
	}
	return made{text.Text(after + l.text[place:]), place, true}
}

// joined goes through the bytes from the line's beginning on; behind the last byte 10 that counts all stays.
func (l literal) joined() made {
	begin := l.at
	for begin > 0 && l.text[begin-1] != 10 {
		begin--
	}
	line, place, cursor := "", begin, -1
	for left := max(l.n, 2) - 1; left > 0 && place < len(l.text); {
		if !l.ends(place) {
			line += l.text[place : place+1]
			place++
			continue
		}
		cursor = begin + len(line)
		place++
		for !l.ends(place) && strings.IndexByte(" \t", l.text[place]) >= 0 {
			place++
		}
		if line != "" && !l.ends(place) {
			line += " "
		}
		left--
	}
	if cursor < 0 {
		return made{}
	}
	return made{text.Text(l.text[:begin] + line + l.text[place:]), cursor, true}
}

func (l literal) laid(what string, behind bool) made {
	place := l.at
	if behind && !l.ends(place) {
		place++
	}
	all := ""
	for range l.n {
		all += what
	}
	return made{text.Text(l.text[:place] + all + l.text[place:]), place + len(all) - 1, true}
}

// laidLines lays the lines of a register into the list of all lines.
func (l literal) laidLines(what string, below bool) made {
	lines := strings.Split(l.text, "\n")
	row := strings.Count(l.text[:l.at], "\n")
	if below {
		row++
	}
	after := append([]string{}, lines[:row]...)
	for range l.n {
		after = append(after, strings.Split(what[:len(what)-1], "\n")...)
	}
	after = append(after, lines[row:]...)
	cursor := 0
	for _, line := range after[:row] {
		cursor += len(line) + 1
	}
	first := strings.IndexFunc(after[row], func(c rune) bool { return c != ' ' && c != '\t' })
	if first < 0 {
		first = max(len(after[row])-1, 0)
	}
	return made{text.Text(strings.Join(after, "\n")), cursor + first, true}
}

// eachSpot goes through all places, with some numbers, of all texts of these bytes up to a length.
func eachSpot(bytes string, length int, do func(Spot, literal)) {
	all := []string{""}
	for i := 0; i < len(all); i++ {
		if len(all[i]) < length {
			for j := range len(bytes) {
				all = append(all, all[i]+bytes[j:j+1])
			}
		}
		for at := range len(all[i]) + 1 {
			for _, n := range []int{1, 2, 3, 4, 99} {
				do(Spot{text.Text(all[i]), at, n}, literal{all[i], at, n})
			}
		}
	}
}

func TestLiterally(t *testing.T) {
	eachSpot("aB\n", 5, func(s Spot, l literal) {
		compare(t, "r", s, of(s.Replaced('x')), l.replaced('x'))
		compare(t, "~", s, of(s.Turned()), l.turned())
	})
	eachSpot("a \t\n", 6, func(s Spot, l literal) { compare(t, "J", s, of(s.Joined()), l.joined()) })
	eachSpot("a \n", 4, func(s Spot, l literal) {
		for _, what := range []string{"x", "xy", "\n", "x\n", "\nx", " \n\nx"} {
			compare(t, "p of "+what, s, of(s.Laid(what, false, true)), l.laid(what, true))
			compare(t, "P of "+what, s, of(s.Laid(what, false, false)), l.laid(what, false))
		}
		for _, what := range []string{"\n", "x\n", " x\n", "\t \n", "\nx\n", " x\n\n y\n"} {
			compare(t, "p of lines "+what, s, of(s.Laid(what, true, true)), l.laidLines(what, true))
			compare(t, "P of lines "+what, s, of(s.Laid(what, true, false)), l.laidLines(what, false))
		}
	})
}

func compare(t *testing.T, what string, s Spot, got, want made) {
	t.Helper()
	if got != want {
		t.Fatalf("P9: %d %q at %d of %q: %+v, want %+v", s.Count, what, s.At, s.Text, got, want)
	}
}

package verbs

import (
	"testing"

	"nib/text"
)

func stretch(from, to int) text.Piece { return text.Piece{Stretch: text.Stretch{from, to}} }

func lines(from, to int) text.Piece { return text.Piece{Stretch: text.Stretch{from, to}, Lines: true} }

func TestDo(t *testing.T) {
	const some = "ab\n  cD\n\n\tE"
	for _, c := range []struct {
		verb  byte
		text  text.Text
		piece text.Piece
		at    int
		want  text.Text
		to    int
	}{
		{'d', some, stretch(1, 5), 1, "acD\n\n\tE", 1},
		{'d', some, stretch(5, 7), 5, "ab\n  \n\n\tE", 5},
		{'d', some, lines(0, 2), 0, "  cD\n\n\tE", 2},
		{'d', some, lines(0, 7), 5, "\n\tE", 0},
		{'d', some, lines(9, 11), 9, "ab\n  cD\n", 8},
		{'d', some, lines(3, 11), 3, "ab", 0},
		{'d', some, lines(0, 11), 9, "", 0},
		{'d', "", lines(0, 0), 0, "", 0},
		{'d', "\n", lines(0, 0), 0, "", 0},
		{'d', "\n", lines(1, 1), 1, "", 0},
		{'d', "a\n  ", lines(0, 1), 0, "  ", 1},
		{'c', some, stretch(1, 5), 1, "acD\n\n\tE", 1},
		{'c', some, stretch(1, 2), 1, "a\n  cD\n\n\tE", 1},
		{'c', some, stretch(3, 3), 3, some, 3},
		{'c', some, lines(3, 8), 5, "ab\n\n\tE", 3},
		{'c', some, lines(0, 11), 5, "", 0},
		{'c', "", lines(0, 0), 0, "", 0},
		{'y', some, stretch(1, 5), 5, some, 1},
		{'y', some, lines(0, 7), 6, some, 1},
		{'y', some, lines(0, 7), 1, some, 1},
		{'y', some, lines(8, 11), 10, some, 8},
		{'y', some, lines(3, 7), 6, some, 6},
		{'>', some, lines(0, 11), 9, "  ab\n    cD\n\n  \tE", 2},
		{'>', some, stretch(1, 2), 1, "  ab\n  cD\n\n\tE", 2},
		{'>', some, stretch(1, 3), 1, "  ab\n  cD\n\n\tE", 2},
		{'>', some, stretch(1, 4), 1, "  ab\n    cD\n\n\tE", 2},
		{'>', some, stretch(8, 9), 8, some, 8},
		{'>', "  ", lines(0, 2), 0, "    ", 3},
		{'>', "", lines(0, 0), 0, "", 0},
		{'<', some, lines(0, 11), 9, "ab\ncD\n\n\tE", 0},
		{'<', some, stretch(6, 7), 6, "ab\ncD\n\n\tE", 3},
		{'<', "   a", lines(0, 4), 3, " a", 1},
		{'<', " \t a", lines(0, 4), 3, "\t a", 2},
		{'<', "a  ", lines(0, 3), 2, "a  ", 0},
		{'<', "  ", lines(0, 2), 1, "", 0},
		{'u', "AbZ@[\xc0\xff\n\x00", stretch(0, 9), 4, "abz@[\xc0\xff\n\x00", 0},
		{'U', "aBz`{\xe0\xff\n\x00", stretch(0, 9), 4, "ABZ`{\xe0\xff\n\x00", 0},
		{'u', some, stretch(5, 6), 5, some, 5},
		{'U', some, stretch(0, 1), 1, "Ab\n  cD\n\n\tE", 0},
		{'U', some, lines(0, 7), 6, "AB\n  CD\n\n\tE", 1},
		{'u', some, lines(3, 11), 10, "ab\n  cd\n\n\te", 4},
	} {
		got, at := Do(c.verb, c.text, c.piece, c.at)
		if got != c.want || at != c.to {
			t.Errorf("P7: %c of %q, %v, from %d: %q, at %d, want %q, %d", c.verb, c.text, c.piece, c.at, got, at, c.want, c.to)
		}
	}
}

func TestWrites(t *testing.T) {
	for verb, want := range map[byte]bool{'d': true, 'c': true, 'y': true, '>': false, '<': false, 'u': false, 'U': false} {
		if Writes(verb) != want {
			t.Errorf("P7: %c writes registers: %v", verb, Writes(verb))
		}
	}
}

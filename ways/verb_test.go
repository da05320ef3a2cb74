package ways

import (
	"testing"

	"nib/text"
)

func TestChangeWord(t *testing.T) {
	for _, c := range []struct {
		text      text.Text
		at, count int
		key       byte
		want      Goal
		is        bool
	}{
		{sample, 0, 0, 'w', Goal{2, In}, true},
		{sample, 1, 0, 'w', Goal{2, In}, true},
		{sample, 2, 0, 'w', Goal{2, In}, true},
		{sample, 2, 2, 'w', Goal{8, In}, true},
		{sample, 3, 0, 'w', Goal{4, Out}, true},
		{sample, 10, 0, 'w', Goal{10, In}, true},
		{sample, 10, 0, 'W', Goal{14, In}, true},
		{sample, 10, 2, 'W', Goal{21, In}, true},
		{sample, 16, 0, 'w', Goal{19, Out}, true},
		{sample, 25, 99, 'w', Goal{28, In}, true},
		{sample, 29, 0, 'w', Goal{}, false},
		{"", 0, 0, 'w', Goal{}, false},
		{"a", 0, 0, 'w', Goal{0, In}, true},
		{"a ", 1, 0, 'w', Goal{2, Out}, true},
		{"a", 0, 0, 'e', Goal{}, false},
		{sample, 2, 0, 'e', Goal{8, In}, true},
	} {
		got, is := Go(c.key, Start{c.text, c.at, c.count, true, true})
		if got != c.want || is != c.is {
			t.Errorf("P7: %q at %d, c%d%c: %v, %v, want %v, %v", c.text, c.at, c.count, c.key, got, is, c.want, c.is)
		}
	}
}

// TestChangeWordLiterally: cw is ce from one place ahead, wherever no blank and no line's end is; else it is as of another verb.
func TestChangeWordLiterally(t *testing.T) {
	eachStart("a. \n", 6, func(s Start) {
		s.Verb, s.Change = true, true
		for _, key := range []byte("wW") {
			got, is := Go(key, s)
			l := literally(s)
			want, wants := l.go1(key)
			if s.At < s.Text.End() && !l.white(s.At) {
				l.p--
				want, wants = l.wordEnd(key == 'W')
			}
			if got != want || is != wants {
				t.Fatalf("P7: c%c of %+v: %v, %v, want %v, %v", key, s, got, is, want, wants)
			}
		}
	})
}

func TestTaken(t *testing.T) {
	for _, c := range []struct {
		at   int
		goal Goal
		want text.Piece
	}{
		{4, Goal{10, Out}, text.Piece{Stretch: text.Stretch{4, 10}}},
		{10, Goal{4, Out}, text.Piece{Stretch: text.Stretch{4, 10}}},
		{4, Goal{4, Out}, text.Piece{Stretch: text.Stretch{4, 4}}},
		{4, Goal{10, In}, text.Piece{Stretch: text.Stretch{4, 11}}},
		{10, Goal{4, In}, text.Piece{Stretch: text.Stretch{4, 11}}},
		{4, Goal{4, In}, text.Piece{Stretch: text.Stretch{4, 5}}},
		{4, Goal{19, Lines}, text.Piece{Stretch: text.Stretch{0, 24}, Lines: true}},
		{19, Goal{4, Lines}, text.Piece{Stretch: text.Stretch{0, 24}, Lines: true}},
		{16, Goal{16, Lines}, text.Piece{Stretch: text.Stretch{16, 16}, Lines: true}},
		{25, Goal{28, Lines}, text.Piece{Stretch: text.Stretch{25, 29}, Lines: true}},
	} {
		if got := (Start{Text: sample, At: c.at, Verb: true}).Taken(c.goal); got != c.want {
			t.Errorf("P7: taken from %d to %v: %v, want %v", c.at, c.goal, got, c.want)
		}
	}
}

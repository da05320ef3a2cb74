package text

import "testing"

func TestPieces(t *testing.T) {
	const some Text = "ab\n\ncd"
	for _, c := range []struct {
		one, other int
		want       Stretch
	}{
		{0, 0, Stretch{0, 2}}, {2, 1, Stretch{0, 2}}, {3, 3, Stretch{3, 3}}, {0, 3, Stretch{0, 3}}, {5, 1, Stretch{0, 6}}, {3, 6, Stretch{3, 6}}, {6, 6, Stretch{4, 6}},
	} {
		if piece := some.Lines(c.one, c.other); piece != (Piece{c.want, true}) || piece.IsNothing() {
			t.Errorf("the lines of %d and %d: %v, want %v", c.one, c.other, piece, c.want)
		}
	}
	if !(Piece{Stretch: Stretch{2, 2}}).IsNothing() || (Piece{Stretch: Stretch{2, 3}}).IsNothing() {
		t.Errorf("a stretch that begins where it ends is nothing, and no other one")
	}
}

func TestWith(t *testing.T) {
	for _, c := range []struct {
		text    Text
		stretch Stretch
		of      string
		bytes   string
		want    Text
	}{
		{"", Stretch{0, 0}, "", "", ""}, {"", Stretch{0, 0}, "", "x", "x"}, {"abc", Stretch{0, 3}, "abc", "", ""}, {"abc", Stretch{1, 2}, "b", "xyz", "axyzc"}, {"abc", Stretch{3, 3}, "", "x", "abcx"}, {"a\xff\n", Stretch{1, 3}, "\xff\n", "\x80", "a\x80"},
	} {
		if c.text.Of(c.stretch) != c.of || c.text.With(c.stretch, c.bytes) != c.want {
			t.Errorf("%q, %v: %q; with %q: %q, want %q", c.text, c.stretch, c.text.Of(c.stretch), c.bytes, c.text.With(c.stretch, c.bytes), c.want)
		}
	}
}

func TestIndent(t *testing.T) {
	for _, c := range []struct {
		text  Text
		place int
		want  Stretch
	}{
		{"", 0, Stretch{0, 0}}, {"a b", 2, Stretch{0, 0}}, {" \ta ", 0, Stretch{0, 2}}, {"  ", 1, Stretch{0, 2}}, {" \n  \n ", 2, Stretch{2, 4}}, {" \n\n ", 2, Stretch{2, 2}},
	} {
		if blanks := c.text.Indent(c.text.Line(c.place)); blanks != c.want {
			t.Errorf("the blanks ahead of %q at %d: %v, want %v", c.text, c.place, blanks, c.want)
		}
	}
}

func TestColumn(t *testing.T) {
	for _, c := range []struct {
		line         Stretch
		column, want int
	}{{Stretch{3, 6}, 0, 3}, {Stretch{3, 6}, 2, 5}, {Stretch{3, 6}, 3, 5}, {Stretch{3, 6}, 99, 5}, {Stretch{3, 3}, 0, 3}, {Stretch{3, 3}, 5, 3}} {
		if place := c.line.Column(c.column); place != c.want {
			t.Errorf("the column %d of %v: %d, want %d", c.column, c.line, place, c.want)
		}
	}
}

func TestJoin(t *testing.T) {
	for _, c := range [][3]Stretch{{{1, 2}, {4, 6}, {1, 6}}, {{4, 6}, {1, 2}, {1, 6}}, {{1, 6}, {2, 3}, {1, 6}}, {{2, 2}, {2, 2}, {2, 2}}} {
		if c[0].Join(c[1]) != c[2] {
			t.Errorf("%v and %v: %v, want %v", c[0], c[1], c[0].Join(c[1]), c[2])
		}
	}
}

func TestAround(t *testing.T) {
	const some Text = "a(b[c)\n(d{\n}])"
	for _, c := range []struct {
		place   int
		bracket byte
		want    Stretch
		is      bool
	}{
		{0, '(', Stretch{}, false}, {1, '(', Stretch{1, 6}, true}, {2, ')', Stretch{1, 6}, true}, {5, '(', Stretch{1, 6}, true}, {8, ')', Stretch{7, 14}, true}, {13, ')', Stretch{7, 14}, true}, {14, ')', Stretch{}, false},
		{3, ']', Stretch{3, 13}, true}, {5, '[', Stretch{3, 13}, true}, {12, '[', Stretch{3, 13}, true}, {13, '[', Stretch{}, false},
		{9, '{', Stretch{9, 12}, true}, {11, '{', Stretch{9, 12}, true}, {12, '}', Stretch{}, false},
	} {
		if pair, is := some.Around(c.place, c.bracket); pair != c.want || is != c.is {
			t.Errorf("%c around %d: %v, %v, want %v, %v", c.bracket, c.place, pair, is, c.want, c.is)
		}
	}
	for _, text := range []Text{"", "\n", "(", ")", ")(", "((", "(]"} {
		for place := range len(text) + 1 {
			if pair, is := text.Around(place, '('); is || pair != (Stretch{}) {
				t.Errorf("%q: brackets around %d: %v", text, place, pair)
			}
			if place == len(text) || text[place] == '\n' {
				continue
			}
			if partner, is := text.Partner(place); is || partner != 0 {
				t.Errorf("%q: the partner of %d: %d", text, place, partner)
			}
		}
	}
}

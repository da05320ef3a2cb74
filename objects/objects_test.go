package objects

import (
	"strings"
	"testing"

	"nib/text"
)

func TestNoObject(t *testing.T) {
	for c := range 256 {
		if strings.IndexByte("wW()[]{}\"'p", byte(c)) >= 0 {
			continue
		}
		for _, whole := range []bool{false, true} {
			if piece, is := Find(byte(c), Place{"a\n\nb", 0, whole}); is || piece != (text.Piece{}) {
				t.Errorf("P8: the byte %d is no object, but is %v", c, piece)
			}
		}
	}
}

func TestFind(t *testing.T) {
	const words, code = "a.b  cd\t\n\n  \ne", "f(a, (b), [c\n]) \"x\" 'y' \"z"
	for _, c := range []struct {
		text text.Text
		at   int
		keys string
		want text.Stretch
		is   bool
	}{
		{words, 0, "iw", text.Stretch{0, 1}, true},
		{words, 0, "aw", text.Stretch{0, 1}, true},
		{words, 0, "iW", text.Stretch{0, 3}, true},
		{words, 1, "aW", text.Stretch{0, 5}, true},
		{words, 4, "iw", text.Stretch{3, 5}, true},
		{words, 4, "aw", text.Stretch{3, 7}, true},
		{words, 6, "aw", text.Stretch{5, 8}, true},
		{words, 7, "aw", text.Stretch{}, false},
		{words, 9, "iw", text.Stretch{}, false},
		{words, 9, "aW", text.Stretch{}, false},
		{words, 11, "iw", text.Stretch{10, 12}, true},
		{words, 11, "aw", text.Stretch{}, false},
		{words, 13, "aw", text.Stretch{13, 14}, true},
		{"a b", 2, "aw", text.Stretch{1, 3}, true},
		{code, 0, "i(", text.Stretch{}, false},
		{code, 1, "i(", text.Stretch{2, 14}, true},
		{code, 2, "a)", text.Stretch{1, 15}, true},
		{code, 6, "i)", text.Stretch{6, 7}, true},
		{code, 7, "a(", text.Stretch{5, 8}, true},
		{code, 8, "i(", text.Stretch{2, 14}, true},
		{code, 11, "i[", text.Stretch{11, 13}, true},
		{code, 13, "a]", text.Stretch{10, 14}, true},
		{code, 6, "i{", text.Stretch{}, false},
		{code, 13, "i\"", text.Stretch{17, 18}, true},
		{code, 18, "a\"", text.Stretch{16, 19}, true},
		{code, 19, "i\"", text.Stretch{}, false},
		{code, 16, "i'", text.Stretch{21, 22}, true},
		{code, 0, "i\"", text.Stretch{}, false},
	} {
		piece, is := Find(c.keys[1], Place{c.text, c.at, c.keys[0] == 'a'})
		if is != c.is || piece != (text.Piece{Stretch: c.want}) {
			t.Errorf("P8: %s of %q at %d: %v, %v, want %v, %v", c.keys, c.text, c.at, piece, is, c.want, c.is)
		}
	}
}

package text

// Piece is a stretch that something is done to. Of lines it is from the first one's beginning to the last one's end.
type Piece struct {
	Stretch
	Lines bool
}

// IsNothing: even an empty line is something.
func (p Piece) IsNothing() bool { return p.IsEmpty() && !p.Lines }

// Lines is the lines of two places and all between.
func (t Text) Lines(one, other int) Piece {
	return Piece{t.Line(one).Join(t.Line(other)), true}
}

// Of is the bytes of a stretch.
func (t Text) Of(s Stretch) string { return string(t[s[0]:s[1]]) }

// With is the text with other bytes in the place of a stretch.
func (t Text) With(s Stretch, bytes string) Text {
	return t[:s[0]] + Text(bytes) + t[s[1]:]
}

// Apart is the least stretches of two texts in which they differ: with the bytes of the other's stretch in its own one each text is the other.
func (t Text) Apart(other Text) (own, others Stretch) {
	shorter := min(len(t), len(other))
	ahead := 0
	for ahead < shorter && t[ahead] == other[ahead] {
		ahead++
	}
	behind := 0
	for behind < shorter-ahead && t[len(t)-1-behind] == other[len(other)-1-behind] {
		behind++
	}
	return Stretch{ahead, len(t) - behind}, Stretch{ahead, len(other) - behind}
}

package ways

import "nib/text"

// Find is one of f, t, F, T and the byte that it looks for; at first none.
type Find struct {
	Key, Byte byte
}

// Turned is the same in the other direction.
func (f Find) Turned() Find {
	switch f.Key {
	case 'f':
		f.Key = 'F'
	case 'F':
		f.Key = 'f'
	case 't':
		f.Key = 'T'
	case 'T':
		f.Key = 't'
	}
	return f
}

// Go finds the byte in the line.
func (f Find) Go(s Start) (Goal, bool) { return f.goFrom(s, 1) }

// Again finds it once more: what t or T stands beside already does not count then.
func (f Find) Again(s Start) (Goal, bool) {
	if f.stopsShort() {
		return f.goFrom(s, 2)
	}
	return f.goFrom(s, 1)
}

func (f Find) stopsShort() bool { return f.Key == 't' || f.Key == 'T' }

func (f Find) goFrom(s Start, nearest int) (Goal, bool) {
	direction, kind := text.Down, In
	switch f.Key {
	case 0:
		return Goal{}, false
	case 'F', 'T':
		direction, kind = text.Up, Out
	}
	place, is := f.seek(s, nearest, direction)
	if !is {
		return Goal{}, false
	}
	if f.stopsShort() {
		place -= direction
	}
	return Goal{place, kind}, true
}

func (f Find) seek(s Start, nearest, direction int) (int, bool) {
	line, left := s.line(), s.number()
	for place := s.At + nearest*direction; line[0] <= place && place < line[1]; place += direction {
		if s.Text[place] == f.Byte {
			left--
		}
		if left == 0 {
			return place, true
		}
	}
	return 0, false
}

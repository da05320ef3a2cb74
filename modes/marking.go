package modes

import (
	"nib/api"
	"nib/text"
	"nib/verbs"
)

// marking is Visual and Lines: a way changes what is marked.
type marking struct{ *reader }

func (m marking) take(key byte) outcome {
	switch {
	case m.part != 0:
		return m.complete(key)
	case m.digit(key):
		return more
	}
	return m.command(key)
}

func (m marking) command(key byte) outcome {
	switch key {
	case '"':
		return m.lead()
	case 'i', 'a':
		return m.await(key)
	case 'o':
		return m.changeEnds()
	case 'v':
		return m.turn(api.Visual)
	case 'V':
		return m.turn(api.Lines)
	case 'x':
		return m.do(verbs.Delete, m.marked())
	case 's':
		return m.do(verbs.Change, m.marked())
	case verbs.Delete, verbs.Change, verbs.Copy, verbs.Right, verbs.Left, verbs.Small, verbs.Great:
		return m.do(key, m.marked())
	}
	return m.way(key)
}

// changeEnds: the anchor of an object may be a line's end, where the cursor can't be.
func (m marking) changeEnds() outcome {
	anchor := m.anchor
	m.anchor = m.at
	m.moveTo(anchor)
	return done
}

// turn takes the key of a mode: its own one ends it.
func (m marking) turn(mode int) outcome {
	if m.mode == mode {
		m.toNormal()
	} else {
		m.mode = mode
	}
	return done
}

// marked is both ends and all between; at the text's end there is no byte to take.
func (m marking) marked() text.Piece {
	if m.mode == api.Lines {
		return m.text.Lines(m.anchor, m.at)
	}
	first, last := min(m.anchor, m.at), max(m.anchor, m.at)
	return text.Piece{Stretch: text.Stretch{first, min(last+1, m.text.End())}}
}

package modes

import "nib/api"

// marking is Visual and Lines: a way changes what is marked.
type marking struct{ *reader }

func (m marking) take(key byte) outcome {
	switch {
	case m.part != 0:
		return m.complete(key)
	case m.digit(key):
		return more
	}
	return m.command(key)
}

func (m marking) command(key byte) outcome {
	switch key {
	case '"':
		return m.lead()
	case 'i', 'a':
		return m.await(key)
	case 'o':
		m.at, m.anchor = m.anchor, m.at
		return done
	case 'v':
		return m.turn(api.Visual)
	case 'V':
		return m.turn(api.Lines)
	case 'd', 'x', 'c', 's', 'y', '>', '<', 'u', 'U':
		return done
	}
	return m.way(key)
}

// turn takes the key of a mode: its own one ends it.
func (m marking) turn(mode int) outcome {
	if m.mode == mode {
		m.toNormal()
	} else {
		m.mode = mode
	}
	return done
}

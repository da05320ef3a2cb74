package modes

import "nib/api"

// normal is the mode in which keys are commands.
type normal struct{ *reader }

func (n normal) take(key byte) outcome {
	switch {
	case n.part != 0:
		return n.complete(key)
	case n.digit(key):
		return more
	case n.verb != 0:
		return n.behindVerb(key)
	}
	return n.command(key)
}

func (n normal) complete(key byte) outcome {
	switch {
	case n.part == 'g' && n.verb == 0 && (key == 'u' || key == 'U'):
		n.await(0)
		return n.toVerb(key)
	case n.part == 'r':
		return done
	}
	return n.reader.complete(key)
}

func (n normal) toVerb(key byte) outcome {
	n.verb = key
	return more
}

// behindVerb takes what a verb is done to.
func (n normal) behindVerb(key byte) outcome {
	switch key {
	case n.verb:
		return done
	case 'i', 'a':
		return n.await(key)
	}
	return n.way(key)
}

func (n normal) command(key byte) outcome {
	switch key {
	case '"':
		return n.lead()
	case 'd', 'c', 'y', '>', '<':
		return n.toVerb(key)
	case 'r':
		return n.await(key)
	case 'v':
		n.mark(api.Visual)
		return done
	case 'V':
		n.mark(api.Lines)
		return done
	case 'x', 'X', 'D', 'C', 's', 'S', 'Y', 'p', 'P', '~', 'J', 'i', 'a', 'I', 'A', 'o', 'O', 'u', api.Redo, '.':
		return done
	}
	return n.way(key)
}

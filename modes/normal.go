package modes

import (
	"nib/api"
	"nib/text"
	"nib/verbs"
)

// normal is the mode in which keys are commands.
type normal struct{ *reader }

func (n normal) take(key byte) outcome {
	switch {
	case n.part != 0:
		return n.complete(key)
	case n.digit(key):
		return more
	case n.verb != 0:
		return n.behindVerb(key)
	}
	return n.command(key)
}

func (n normal) complete(key byte) outcome {
	switch {
	case n.part == 'g' && n.verb == 0 && (key == verbs.Small || key == verbs.Great):
		n.await(0)
		return n.toVerb(key)
	case n.part == 'r':
		return n.replace(key)
	}
	return n.reader.complete(key)
}

func (n normal) toVerb(key byte) outcome {
	n.verb = key
	return more
}

// behindVerb takes what a verb is done to.
func (n normal) behindVerb(key byte) outcome {
	switch key {
	case n.verb:
		return n.do(n.verb, n.lines())
	case 'i', 'a':
		return n.await(key)
	}
	return n.way(key)
}

// lines is as many as the number says, from the cursor's on, if there are so many.
func (n normal) lines() text.Piece {
	last, _ := n.text.Further(n.line(), n.times()-1, text.Down)
	return n.text.Lines(n.at, last[0])
}

func (n normal) command(key byte) outcome {
	switch key {
	case '"':
		return n.lead()
	case verbs.Delete, verbs.Change, verbs.Copy, verbs.Right, verbs.Left:
		return n.toVerb(key)
	case 'r':
		return n.await(key)
	case 'v':
		n.mark(api.Visual)
		return done
	case 'V':
		n.mark(api.Lines)
		return done
	case 'x', 'X', 'D', 'C', 's', 'S', 'Y':
		return n.short(key)
	case 'i', 'a', 'I', 'A':
		return n.begin(key)
	case 'o', 'O':
		return n.openLine(key)
	case 'p', 'P':
		return n.lay(key)
	case '~':
		return n.edit(n.spot().Turned())
	case 'J':
		return n.edit(n.spot().Joined())
	case 'u':
		return n.goTo(n.history.Undo(n.times()))
	case api.Redo:
		return n.goTo(n.history.Redo(n.times()))
	case '.':
		return again
	}
	return n.way(key)
}

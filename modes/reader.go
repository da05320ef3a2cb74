package modes

import (
	"nib/objects"
	"nib/text"
	"nib/verbs"
	"nib/ways"
)

// outcome is what became of a key.
type outcome int

const (
	more   outcome = iota // the command is not whole yet
	done                  // it was done
	did                   // it was done, and is a doing
	again                 // the last doing is to be done
	failed                // it failed
)

// reader is what is common to the modes in which keys are commands.
type reader struct {
	*desk
	begun
}

func (r *reader) escape() outcome {
	r.forget()
	r.toNormal()
	return done
}

// complete takes the key that the one before it needs.
func (r *reader) complete(key byte) outcome {
	switch r.part {
	case '"':
		return r.name(key)
	case 'f', 't', 'F', 'T':
		r.find = ways.Find{Key: r.part, Byte: key}
		return r.arrive(r.find.Go(r.start()))
	case 'g':
		if key == 'g' {
			return r.arrive(ways.Go(ways.FirstLine, r.start()))
		}
	case 'i', 'a':
		return r.grasp(objects.Find(key, objects.Place{Text: r.text, At: r.at, Whole: r.part == 'a'}))
	}
	return failed
}

// way takes a key of a way.
func (r *reader) way(key byte) outcome {
	switch key {
	case 'f', 't', 'F', 'T', 'g':
		return r.await(key)
	case ';':
		return r.arrive(r.find.Again(r.start()))
	case ',':
		return r.arrive(r.find.Turned().Again(r.start()))
	}
	return r.arrive(ways.Go(key, r.start()))
}

func (r *reader) start() ways.Start {
	return ways.Start{Text: r.text, At: r.at, Count: r.count(), Verb: r.verb != 0, Change: r.verb == verbs.Change}
}

// arrive ends a way: a verb is done to what it takes, or the cursor goes there.
func (r *reader) arrive(goal ways.Goal, is bool) outcome {
	switch {
	case !is:
		return failed
	case r.verb != 0:
		return r.do(r.verb, r.start().Taken(goal))
	}
	r.moveTo(goal.At)
	return done
}

// grasp ends an object: a verb is done to it, or it is marked.
func (r *reader) grasp(object text.Piece, is bool) outcome {
	switch {
	case !is:
		return failed
	case r.verb != 0:
		return r.do(r.verb, object)
	}
	return r.markAll(object)
}

// markAll marks a piece, from its first place to its last one.
func (r *reader) markAll(piece text.Piece) outcome {
	switch {
	case piece.IsNothing():
		return failed
	case piece.Lines:
		r.moveTo(r.text.Line(piece.Stretch[1])[0])
	default:
		r.moveTo(piece.Stretch.Last())
	}
	r.anchor = piece.Stretch[0]
	return done
}

// do does a verb, which ends what is marked.
func (r *reader) do(verb byte, piece text.Piece) outcome {
	if piece.IsNothing() && verb != verbs.Change {
		return failed
	}
	what := taken(r.text, piece)
	after, at := verbs.Do(verb, r.text, piece, r.at)
	if !r.become(after) {
		return failed
	}
	if verbs.Writes(verb) {
		r.registers.write(r.register, what)
	}
	if verb == verbs.Change {
		return r.insertAt(at)
	}
	r.toNormal()
	r.moveTo(at)
	if verb == verbs.Copy {
		return done
	}
	return did
}

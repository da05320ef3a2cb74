package modes

import (
	"strings"

	"nib/ways"
)

// outcome is what became of a key.
type outcome int

const (
	more   outcome = iota // the command is not whole yet
	done                  // it was done
	failed                // it failed
)

// The keys that name an object, behind i or a.
const objects = "wW()[]{}\"'p"

// reader is what is common to the modes in which keys are commands.
type reader struct {
	*desk
	begun
}

// complete takes the key that the one before it needs.
func (r *reader) complete(key byte) outcome {
	switch r.part {
	case '"':
		return r.name(key)
	case 'f', 't', 'F', 'T':
		r.find = ways.Find{Key: r.part, Byte: key}
		return r.arrive(r.find.Go(r.start()))
	case 'g':
		if key == 'g' {
			return r.arrive(ways.Go(ways.FirstLine, r.start()))
		}
	case 'i', 'a':
		return r.object(key)
	}
	return failed
}

// object does nothing with an object but to know it.
func (r *reader) object(key byte) outcome {
	if strings.IndexByte(objects, key) < 0 {
		return failed
	}
	return done
}

// way takes a key of a way.
func (r *reader) way(key byte) outcome {
	switch key {
	case 'f', 't', 'F', 'T', 'g':
		return r.await(key)
	case ';':
		return r.arrive(r.find.Again(r.start()))
	case ',':
		return r.arrive(r.find.Turned().Again(r.start()))
	}
	return r.arrive(ways.Go(key, r.start()))
}

func (r *reader) start() ways.Start {
	return ways.Start{Text: r.text, At: r.at, Count: r.count(), Verb: r.verb != 0}
}

// arrive ends a way: the cursor goes there, unless the way is for a verb.
func (r *reader) arrive(goal ways.Goal, is bool) outcome {
	if !is {
		return failed
	}
	if r.verb == 0 {
		r.moveTo(goal.At)
	}
	return done
}

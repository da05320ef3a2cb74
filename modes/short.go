package modes

import "nib/verbs"

// short is a verb and what it is done to in one key.
func (n normal) short(key byte) outcome {
	if n.line().IsEmpty() {
		switch key {
		case 'D':
			return failed
		case 'C', 's':
			return n.begin('i')
		}
	}
	verb, behind := spelled(key)
	n.verb = verb
	return n.behindVerb(behind)
}

// spelled is the keys that a short one stands for.
func spelled(key byte) (verb, behind byte) {
	switch key {
	case 'x':
		return verbs.Delete, 'l'
	case 'X':
		return verbs.Delete, 'h'
	case 'D':
		return verbs.Delete, '$'
	case 'C':
		return verbs.Change, '$'
	case 's':
		return verbs.Change, 'l'
	case 'S':
		return verbs.Change, verbs.Change
	}
	return verbs.Copy, verbs.Copy
}

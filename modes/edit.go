package modes

import (
	"nib/edits"
	"nib/text"
)

func (n normal) spot() edits.Spot {
	return edits.Spot{Text: n.text, At: n.at, Count: n.times()}
}

// edit ends a command that makes another text without a verb.
func (n normal) edit(after text.Text, at int, is bool) outcome {
	if !is || !n.become(after) {
		return failed
	}
	n.moveTo(at)
	return did
}

// lay takes p and P.
func (n normal) lay(key byte) outcome {
	what := n.registers.read(n.register)
	return n.edit(n.spot().Laid(what.text, what.lines, key == 'p'))
}

// replace takes the byte behind r.
func (n normal) replace(c byte) outcome {
	if !isWritten(c) {
		return failed
	}
	return n.edit(n.spot().Replaced(c))
}

// goTo ends u and Redo: the cursor is where something has become otherwise.
func (n normal) goTo(after text.Text, is bool) outcome {
	if !is {
		return failed
	}
	before := n.text
	n.text = after
	if after != before {
		differs, _ := after.Apart(before)
		n.moveTo(differs[0])
	}
	return done
}

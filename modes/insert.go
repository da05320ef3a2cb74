package modes

import (
	"nib/api"
	"nib/text"
)

// rubout is the other key that does what Backspace does.
const rubout = 127

// insert is the mode in which keys are written.
type insert struct{ *desk }

func (i insert) take(key byte) outcome {
	switch {
	case key == api.Return:
		i.put("\n" + i.indent())
	case key == api.Backspace || key == rubout:
		i.wipe()
	case isWritten(key):
		i.put(string([]byte{key}))
	}
	return done
}

// isWritten tells whether a byte can be written by its own key.
func isWritten(key byte) bool { return key == '\t' || key >= ' ' }

// put writes bytes ahead of the cursor.
func (i insert) put(bytes string) {
	if i.write(i.at, bytes) {
		i.at += len(bytes)
	}
}

// indent is the blanks ahead in the line, as far as they are ahead of the cursor.
func (i insert) indent() string {
	blanks := i.text.Indent(i.line())
	blanks[1] = min(blanks[1], i.at)
	return i.text.Of(blanks)
}

func (i insert) wipe() {
	if i.at == 0 {
		return
	}
	i.text = i.text.With(text.Stretch{i.at - 1, i.at}, "")
	i.at--
}

// escape: what was written last is under the cursor then.
func (i insert) escape() outcome {
	i.at = max(i.at-1, i.line()[0])
	i.toNormal()
	return did
}

package modes

import (
	"nib/api"
	"nib/text"
)

// taker is a mode, for its keys.
type taker interface{ take(key byte) outcome }

// Board gives each key to the mode that is on.
type Board struct {
	*reader
	normal  normal
	marking marking
}

// New is a board with a text, the cursor at 0, Normal.
func New(content string) *Board {
	r := &reader{desk: &desk{text: text.Text(content)}}
	return &Board{reader: r, normal: normal{r}, marking: marking{r}}
}

// Type takes keys one by one; how many commands failed.
func (b *Board) Type(keys string) int {
	fails := 0
	for i := range len(keys) {
		if b.press(keys[i]) == failed {
			fails++
		}
	}
	return fails
}

func (b *Board) press(key byte) outcome {
	if key == api.Escape {
		return b.escape()
	}
	became := b.on().take(key)
	if became != more {
		b.forget()
	}
	return became
}

// escape stands ahead of all modes: no command has this key as a part.
func (b *Board) escape() outcome {
	b.forget()
	b.toNormal()
	return done
}

func (b *Board) on() taker {
	if b.mode == api.Normal {
		return b.normal
	}
	return b.marking
}

// State tells all that is to be seen.
func (b *Board) State() api.State {
	return api.State{Text: string(b.text), At: b.at, Anchor: b.anchor, Mode: b.mode, Waiting: b.waiting()}
}

// Register tells what a register has: nothing, as no key writes one yet.
func (b *Board) Register(name byte) (string, bool) { return "", false }

package modes

import (
	"nib/api"
	"nib/changes"
	"nib/text"
)

// taker is a mode, for its keys.
type taker interface {
	take(key byte) outcome
	escape() outcome
}

// Board gives each key to the mode that is on.
type Board struct {
	*reader
	record
	normal  normal
	insert  insert
	marking marking
}

// New is a board with a text, the cursor at 0, Normal.
func New(content string) *Board {
	t := text.Text(content)
	r := &reader{desk: &desk{text: t, registers: registers{}, history: changes.Of(t)}}
	return &Board{reader: r, normal: normal{r}, insert: insert{r.desk}, marking: marking{r}}
}

// Type takes keys one by one; how many commands failed.
func (b *Board) Type(keys string) int {
	fails := 0
	for i := range len(keys) {
		if b.press(keys[i]) == failed {
			fails++
		}
	}
	return fails
}

// press takes a key. For u and for the dot a command that begins Insert is over when that is.
func (b *Board) press(key byte) outcome {
	mode := b.mode
	became := b.take(key)
	b.keep(key, mode)
	if became != more && b.mode != api.Insert {
		b.end(became)
		b.history.Keep(b.text)
	}
	return became
}

// take gives a key to the mode that is on. Escape is no part of any command, so it goes ahead of them.
func (b *Board) take(key byte) outcome {
	if key == api.Escape {
		return b.on().escape()
	}
	became := b.on().take(key)
	if became != more {
		b.forget()
	}
	if became == again {
		return b.repeat()
	}
	return became
}

// repeat types the last doing; all of it is one command, so its keys are not pressed one by one.
func (b *Board) repeat() outcome {
	if b.doing == "" {
		return failed
	}
	for i := range len(b.doing) {
		if b.take(b.doing[i]) == failed {
			return failed
		}
	}
	return done
}

func (b *Board) on() taker {
	switch b.mode {
	case api.Normal:
		return b.normal
	case api.Insert:
		return b.insert
	}
	return b.marking
}

// State tells all that is to be seen.
func (b *Board) State() api.State {
	return api.State{Text: string(b.text), At: b.at, Anchor: b.anchor, Mode: b.mode, Waiting: b.waiting()}
}

// Register tells what a register has, and whether that is lines.
func (b *Board) Register(name byte) (string, bool) {
	what := b.registers[name]
	return what.text, what.lines
}

package modes

import (
	"nib/api"
	"nib/text"
)

// taker is a mode, for its keys.
type taker interface {
	take(key byte) outcome
	escape()
}

// Board gives each key to the mode that is on.
type Board struct {
	*reader
	normal  normal
	insert  insert
	marking marking
}

// New is a board with a text, the cursor at 0, Normal.
func New(content string) *Board {
	r := &reader{desk: &desk{text: text.Text(content), registers: registers{}}}
	return &Board{reader: r, normal: normal{r}, insert: insert{r.desk}, marking: marking{r}}
}

// Type takes keys one by one; how many commands failed.
func (b *Board) Type(keys string) int {
	fails := 0
	for i := range len(keys) {
		if b.press(keys[i]) == failed {
			fails++
		}
	}
	return fails
}

// press: Escape is no part of any command, so it goes ahead of them.
func (b *Board) press(key byte) outcome {
	if key == api.Escape {
		b.on().escape()
		return done
	}
	became := b.on().take(key)
	if became != more {
		b.forget()
	}
	return became
}

func (b *Board) on() taker {
	switch b.mode {
	case api.Normal:
		return b.normal
	case api.Insert:
		return b.insert
	}
	return b.marking
}

// State tells all that is to be seen.
func (b *Board) State() api.State {
	return api.State{Text: string(b.text), At: b.at, Anchor: b.anchor, Mode: b.mode, Waiting: b.waiting()}
}

// Register tells what a register has, and whether that is lines.
func (b *Board) Register(name byte) (string, bool) {
	what := b.registers[name]
	return what.text, what.lines
}

// Package nib: an editor that is driven by keys: see DOC.md.
package nib

import (
	"nib/api"
	"nib/modes"
)

// Editor is a text, and what is done to it.
type Editor struct{ board *modes.Board }

// New makes an editor of a text (P3).
func New(text string) (*Editor, api.Errno) {
	if len(text) > api.MaxText {
		return nil, api.ErrText
	}
	return &Editor{modes.New(text)}, api.OK
}

// Type takes keys; how many commands failed (P4).
func (e *Editor) Type(keys string) int { return e.board.Type(keys) }

// State tells all that is to be seen (P5).
func (e *Editor) State() api.State { return e.board.State() }

// Register tells what a register has; is it lines? (P5)
func (e *Editor) Register(name byte) (string, bool) { return e.board.Register(name) }

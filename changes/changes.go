// Package changes: how a text came to be, so that it can be undone and done again (P9, P13).
package changes

import (
	"strings"

	"nib/text"
)

// step leads from a text to another one: bytes come in the place of a stretch.
type step struct {
	stretch text.Stretch
	bytes   string
}

// between is the step from a text to another one. Its bytes are a copy, as a part of a text would keep all of it.
func between(t, other text.Text) step {
	own, others := t.Apart(other)
	return step{own, strings.Clone(other.Of(others))}
}

// History is a text, the steps back from it, and the steps forth that were undone; the next one is each time the last of them.
type History struct {
	now         text.Text
	back, forth []step
}

// Of is the history of a text to which nothing was done.
func Of(t text.Text) History { return History{now: t} }

// Keep takes the text of now; if it is another one that is a change, and what was undone is forgotten.
func (h *History) Keep(t text.Text) {
	if t == h.now {
		return
	}
	h.back = append(h.back, between(t, h.now))
	h.now, h.forth = t, nil
}

// Undo is the text ahead of so many changes, or of all that there are; not, if there is none.
func (h *History) Undo(count int) (text.Text, bool) { return h.walk(count, &h.back, &h.forth) }

// Redo is the text behind so many changes that were undone, or behind all that there are; not, if there is none.
func (h *History) Redo(count int) (text.Text, bool) { return h.walk(count, &h.forth, &h.back) }

// walk goes steps, and keeps for each of them the one that leads back.
func (h *History) walk(count int, steps, others *[]step) (text.Text, bool) {
	if len(*steps) == 0 {
		return "", false
	}
	for range min(count, len(*steps)) {
		last := len(*steps) - 1
		next := h.now.With((*steps)[last].stretch, (*steps)[last].bytes)
		*steps, *others = (*steps)[:last], append(*others, between(next, h.now))
		h.now = next
	}
	return h.now, true
}

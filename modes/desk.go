// Package modes: what keys do, mode by mode (P4, P5, P9 to P12).
package modes

import (
	"nib/api"
	"nib/changes"
	"nib/text"
	"nib/ways"
)

// desk is what is common to all modes.
type desk struct {
	text      text.Text
	at        int
	anchor    int
	mode      int
	registers registers
	history   changes.History
	find      ways.Find // the last one, for ; and ,
}

// moveTo puts the cursor at a place, or, where that is behind its line's last one, there.
func (d *desk) moveTo(place int) {
	d.at = min(place, d.text.Line(place).Last())
}

// mark begins a mode that marks, from the cursor on.
func (d *desk) mark(mode int) {
	d.mode, d.anchor = mode, d.at
}

func (d *desk) toNormal() {
	d.mode, d.anchor = api.Normal, 0
}

// insertAt begins Insert at a place, which may be a line's end.
func (d *desk) insertAt(place int) outcome {
	d.mode, d.anchor, d.at = api.Insert, 0, place
	return done
}

// become takes another text; not, if that is too long.
func (d *desk) become(after text.Text) bool {
	if len(after) > api.MaxText {
		return false
	}
	d.text = after
	return true
}

// write puts bytes at a place, if there is room for them.
func (d *desk) write(place int, bytes string) bool {
	return d.become(d.text.With(text.Stretch{place, place}, bytes))
}

// line is the one that the cursor is in.
func (d *desk) line() text.Stretch { return d.text.Line(d.at) }

// Package modes: what keys do, mode by mode (P4, P5, P11).
package modes

import (
	"nib/api"
	"nib/text"
	"nib/ways"
)

// desk is what is common to all modes.
type desk struct {
	text   text.Text
	at     int
	anchor int
	mode   int
	find   ways.Find // the last one, for ; and ,
}

// moveTo puts the cursor at a place, or, where that is behind its line's last one, there.
func (d *desk) moveTo(place int) {
	d.at = min(place, d.text.Line(place).Last())
}

// mark begins a mode that marks, from the cursor on.
func (d *desk) mark(mode int) {
	d.mode, d.anchor = mode, d.at
}

func (d *desk) toNormal() {
	d.mode, d.anchor = api.Normal, 0
}

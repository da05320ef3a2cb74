package modes

import "nib/api"

// record is the keys that the dot types again.
type record struct {
	typed []byte // of a command that is not over yet
	doing string // of the last doing; empty, if there was none
}

// keep takes a key of Normal, or of an Insert that began there.
func (r *record) keep(key byte, mode int) {
	if mode == api.Normal || mode == api.Insert && len(r.typed) > 0 {
		r.typed = append(r.typed, key)
	}
}

// end ends a command; of one that was typed where things are marked no keys were kept.
func (r *record) end(became outcome) {
	if became == did && len(r.typed) > 0 {
		r.doing = string(r.typed)
	}
	r.typed = nil
}

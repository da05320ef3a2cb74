package modes

import "nib/text"

// register is what one has; at first nothing.
type register struct {
	text  string
	lines bool
}

type registers map[byte]register

// unnamed is the register that takes all that any one does.
const unnamed = '"'

// write writes into the unnamed register, and into the one that was named, if one was.
func (r registers) write(name byte, what register) {
	r[unnamed] = what
	if name != 0 {
		r[name] = what
	}
}

// read is what the named register has, or the unnamed one, if none was named.
func (r registers) read(name byte) register {
	if name == 0 {
		name = unnamed
	}
	return r[name]
}

// taken is a piece of a text for a register: lines have a byte 10 behind each.
func taken(t text.Text, piece text.Piece) register {
	content := t.Of(piece.Stretch)
	if piece.Lines {
		content += "\n"
	}
	return register{content, piece.Lines}
}

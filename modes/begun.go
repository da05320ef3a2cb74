package modes

import "nib/api"

// begun is what was typed of a command that is not whole yet; empty, if nothing was.
type begun struct {
	register byte // its name, 0 if none was named
	number   int  // ahead of the command, 0 if there is none
	verb     byte // its last key
	behind   int  // the number behind the verb
	part     byte // a key that needs one more
}

func (b *begun) forget() { *b = begun{} }

func (b *begun) waiting() bool { return *b != begun{} }

// await keeps a key that needs one more.
func (b *begun) await(part byte) outcome {
	b.part = part
	return more
}

// count is the number of the whole command, 0 if there is none.
func (b *begun) count() int {
	if b.number == 0 || b.behind == 0 {
		return b.number + b.behind
	}
	return min(b.number*b.behind, api.MaxCount)
}

// times is how often the whole command is done.
func (b *begun) times() int { return max(b.count(), 1) }

// digit takes a key of a number; not, if the key is none there.
func (b *begun) digit(key byte) bool {
	number := &b.number
	if b.verb != 0 {
		number = &b.behind
	}
	if key < '0' || key > '9' || key == '0' && *number == 0 {
		return false
	}
	*number = min(*number*10+int(key-'0'), api.MaxCount)
	return true
}

// lead begins the name of a register, which stands ahead of all else; so there is only one.
func (b *begun) lead() outcome {
	if b.waiting() {
		return failed
	}
	return b.await('"')
}

func (b *begun) name(key byte) outcome {
	if key != unnamed && (key < 'a' || key > 'z') {
		return failed
	}
	b.register = key
	return b.await(0)
}

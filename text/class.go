package text

// Class is a kind of bytes.
type Class int

const (
	Blank Class = iota
	LineEnd
	Word
	Sign
)

// ClassOf is the class of a byte; for the great keys signs are word bytes, too.
func ClassOf(c byte, great bool) Class {
	switch {
	case c == ' ' || c == '\t':
		return Blank
	case c == lineEnd:
		return LineEnd
	case great || isWord(c):
		return Word
	}
	return Sign
}

func isWord(c byte) bool {
	return 'a' <= c && c <= 'z' || 'A' <= c && c <= 'Z' || '0' <= c && c <= '9' || c == '_' || c >= 128
}

package objects

import (
	"strings"
	"testing"

	"nib/text"
)

// literal finds the objects of P8 as the document's sentences say them, by counting and by lists, with nothing of what the package does.
type literal struct {
	text  string
	p     int
	whole bool
}

const (
	blank = iota
	end
	word
	sign
)

func class(c byte, great bool) int {
	switch {
	case c == 32 || c == 9:
		return blank
	case c == 10:
		return end
	case great || c >= 128 || strings.IndexByte("abcdefghijklmnopqrstuvwxyzABCDEFGHIJKLMNOPQRSTUVWXYZ0123456789_", c) >= 0:
		return word
	}
	return sign
}

// run: how far bytes of one class stand beside the one of a place, which is none of 10.
func (l literal) run(p int, great bool) (int, int) {
	from, to := p, p
	for from > 0 && class(l.text[from-1], great) == class(l.text[p], great) {
		from--
	}
	for to < len(l.text) && class(l.text[to], great) == class(l.text[p], great) {
		to++
	}
	return from, to
}

func (l literal) is(p, want int, great bool) bool {
	return p >= 0 && p < len(l.text) && class(l.text[p], great) == want
}

func (l literal) word(great bool) (text.Piece, bool) {
	if l.p == len(l.text) || l.text[l.p] == 10 {
		return text.Piece{}, false
	}
	from, to := l.run(l.p, great)
	atBlanks := l.is(l.p, blank, great)
	switch {
	case !l.whole:
	case atBlanks && (to == len(l.text) || l.text[to] == 10):
		return text.Piece{}, false
	case atBlanks:
		_, to = l.run(to, great)
	case l.is(to, blank, great):
		_, to = l.run(to, great)
	case l.is(from-1, blank, great):
		from, _ = l.run(from-1, great)
	}
	return text.Piece{Stretch: text.Stretch{from, to}}, true
}

func (l literal) between(from, to int) text.Piece {
	if l.whole {
		return text.Piece{Stretch: text.Stretch{from, to + 1}}
	}
	return text.Piece{Stretch: text.Stretch{from + 1, to}}
}

// brackets: how many of each stand in a part of the text is counted anew for each place.
func (l literal) brackets(open, close string) (text.Piece, bool) {
	from := -1
	if strings.HasPrefix(l.text[l.p:], open) {
		from = l.p
	}
	for o := l.p - 1; o >= 0 && from < 0; o-- {
		if part := l.text[o:l.p]; strings.Count(part, open) > strings.Count(part, close) {
			from = o
		}
	}
	for c := from + 1; from >= 0 && c < len(l.text); c++ {
		if part := l.text[from : c+1]; strings.Count(part, open) == strings.Count(part, close) {
			return l.between(from, c), true
		}
	}
	return text.Piece{}, false
}

func (l literal) quotes(quote byte) (text.Piece, bool) {
	from := strings.LastIndex(l.text[:l.p], "\n") + 1
	var places []int
	for place := from; place < len(l.text) && l.text[place] != 10; place++ {
		if l.text[place] == quote {
			places = append(places, place)
		}
	}
	for i := 1; i < len(places); i += 2 {
		if places[i] >= l.p {
			return l.between(places[i-1], places[i]), true
		}
	}
	return text.Piece{}, false
}

func (l literal) paragraph() (text.Piece, bool) {
	lines := strings.Split(l.text, "\n")
	own := strings.Count(l.text[:l.p], "\n")
	like := func(i int, empty bool) bool { return i >= 0 && i < len(lines) && (lines[i] == "") == empty }
	first, last, empty := own, own, lines[own] == ""
	for like(first-1, empty) {
		first--
	}
	for like(last+1, empty) {
		last++
	}
	switch {
	case !l.whole:
	case like(last+1, !empty):
		for like(last+1, !empty) {
			last++
		}
	case like(first-1, !empty):
		for like(first-1, !empty) {
			first--
		}
	default:
		return text.Piece{}, false
	}
	begin := len(strings.Join(lines[:first], "\n"))
	if first > 0 {
		begin++
	}
	return text.Piece{Stretch: text.Stretch{begin, len(strings.Join(lines[:last+1], "\n"))}, Lines: true}, true
}

func (l literal) find(key byte) (text.Piece, bool) {
	switch key {
	case 'w', 'W':
		return l.word(key == 'W')
	case '(', ')':
		return l.brackets("(", ")")
	case '[', ']':
		return l.brackets("[", "]")
	case '{', '}':
		return l.brackets("{", "}")
	case 'p':
		return l.paragraph()
	}
	return l.quotes(key)
}

// compare goes through all texts of these bytes up to a length, and all places at which a cursor can be.
func compare(t *testing.T, keys, bytes string, length int) {
	t.Helper()
	all := []string{""}
	for i := 0; i < len(all); i++ {
		if len(all[i]) < length {
			for j := range len(bytes) {
				all = append(all, all[i]+bytes[j:j+1])
			}
		}
		for at := range len(all[i]) + 1 {
			for _, key := range []byte(keys) {
				for _, whole := range []bool{false, true} {
					got, is := Find(key, Place{text.Text(all[i]), at, whole})
					want, wants := literal{all[i], at, whole}.find(key)
					if got != want || is != wants {
						t.Fatalf("P8: %c (a: %v) of %q at %d: %v, %v, want %v, %v", key, whole, all[i], at, got, is, want, wants)
					}
				}
			}
		}
	}
}

func TestWordsLiterally(t *testing.T) {
	compare(t, "wW", "a. \n", 6)
	compare(t, "wW", "_\xff\t\r\n", 5)
}

func TestBracketsLiterally(t *testing.T) {
	compare(t, "()", "()\n", 8)
	compare(t, "()[]{}", "([)]", 6)
	compare(t, "{}", "{}a\n", 6)
	compare(t, "[]", "[]a\n", 6)
}

func TestQuotesLiterally(t *testing.T) {
	compare(t, "\"'", "\"'a\n", 6)
	compare(t, "\"", "\"\n", 9)
}

func TestParagraphsLiterally(t *testing.T) {
	compare(t, "p", "a\n", 9)
	compare(t, "p", "a \n", 7)
}

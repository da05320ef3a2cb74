package ways

import (
	"strings"
	"testing"

	"nib/text"
)

// literal goes the ways of P6 byte by byte, as the document's sentences say them, with nothing of what the package does by lines.
type literal struct {
	text  string
	p     int
	count int
	verb  bool
}

func (l literal) n() int {
	if l.count == 0 {
		return 1
	}
	return l.count
}

func (l literal) begin(p int) int {
	for p > 0 && l.text[p-1] != 10 {
		p--
	}
	return p
}

func (l literal) end(p int) int {
	for p < len(l.text) && l.text[p] != 10 {
		p++
	}
	return p
}

func (l literal) last(p int) int {
	if l.empty(p) {
		return l.begin(p)
	}
	return l.end(p) - 1
}

func (l literal) empty(p int) bool { return l.begin(p) == l.end(p) }

func (l literal) emptyBegin(p int) bool { return l.empty(p) && p == l.begin(p) }

func (l literal) white(p int) bool { return strings.IndexByte(" \t\n", l.text[p]) >= 0 }

func (l literal) first(p int) int {
	for q := l.begin(p); q < l.end(p); q++ {
		if l.text[q] != ' ' && l.text[q] != '\t' {
			return q
		}
	}
	return l.last(p)
}

// same: are the bytes of p and p + 1 in one run?
func (l literal) same(p int, great bool) bool {
	return p >= 0 && p+1 < len(l.text) && !l.white(p) && !l.white(p+1) && text.ClassOf(l.text[p], great) == text.ClassOf(l.text[p+1], great)
}

// starts: where each line begins, and which one p is in.
func (l literal) starts() ([]int, int) {
	starts, own := []int{0}, 0
	for i := range l.text {
		if l.text[i] == 10 {
			starts = append(starts, i+1)
		}
	}
	for i, s := range starts {
		if s <= l.p {
			own = i
		}
	}
	return starts, own
}

func (l literal) unlessHere(q int, k Kind) (Goal, bool) {
	if q == l.p {
		return Goal{}, false
	}
	return Goal{q, k}, true
}

func (l literal) inLine(key byte) (Goal, bool) {
	switch key {
	case 'h':
		if l.p == l.begin(l.p) {
			return Goal{}, false
		}
		return Goal{max(l.p-l.n(), l.begin(l.p)), Out}, true
	case 'l':
		if l.verb {
			return l.unlessHere(min(l.p+l.n(), l.end(l.p)), Out)
		}
		return l.unlessHere(min(l.p+l.n(), l.last(l.p)), Out)
	case '0':
		return Goal{l.begin(l.p), Out}, true
	}
	return Goal{l.first(l.p), Out}, true
}

func (l literal) toLine(key byte) (Goal, bool) {
	starts, own := l.starts()
	to := own
	switch key {
	case '$':
		to += l.n() - 1
	case 'j':
		to += l.n()
	case 'k':
		to -= l.n()
	case 'G':
		to = len(starts) - 1
		if l.count > 0 {
			to = min(to, l.count-1)
		}
	case 'g':
		to = min(len(starts)-1, l.n()-1)
	}
	if to < 0 || to >= len(starts) {
		return Goal{}, false
	}
	q := starts[to]
	switch {
	case key == '$' && l.empty(q):
		return Goal{q, Out}, true
	case key == '$':
		return Goal{l.last(q), In}, true
	case key == 'j' || key == 'k':
		return Goal{min(q+l.p-starts[own], l.last(q)), Lines}, true
	}
	return Goal{l.first(q), Lines}, true
}

func (l literal) word(great bool) (Goal, bool) {
	r, q := l.p, l.p
	for range l.n() {
		r = q
		if q < len(l.text) && !l.white(q) {
			for l.same(q, great) {
				q++
			}
			q++
		}
		for q < len(l.text) && l.white(q) && !(q != r && l.emptyBegin(q)) {
			q++
		}
	}
	if !l.verb {
		return l.unlessHere(min(q, l.last(len(l.text))), Out)
	}
	if l.begin(q) != l.begin(r) && r != l.end(r) {
		q = l.end(r)
	}
	return l.unlessHere(q, Out)
}

func (l literal) ahead(great bool) (Goal, bool) {
	if l.p == 0 {
		return Goal{}, false
	}
	q := l.p
	for range l.n() {
		if q == 0 {
			break
		}
		q--
		for q > 0 && l.white(q) && !(l.text[q] == 10 && l.emptyBegin(q)) {
			q--
		}
		for q > 0 && l.same(q-1, great) {
			q--
		}
	}
	return Goal{q, Out}, true
}

func (l literal) wordEnd(great bool) (Goal, bool) {
	r := l.p
	for i := range l.n() {
		q := r + 1
		for q < len(l.text) && l.white(q) {
			q++
		}
		switch {
		case q >= len(l.text) && i == 0:
			return Goal{}, false
		case q >= len(l.text):
			continue
		}
		for l.same(q, great) {
			q++
		}
		r = q
	}
	return Goal{r, In}, true
}

func (l literal) paragraph(key byte) (Goal, bool) {
	starts, own := l.starts()
	q := l.p
	for range l.n() {
		if key == '}' {
			q = len(l.text)
			for own++; own < len(starts); own++ {
				if l.empty(starts[own]) && !l.empty(starts[own-1]) {
					q = starts[own]
					break
				}
			}
			own = min(own, len(starts)-1)
		} else {
			q = 0
			for own--; own >= 0; own-- {
				if l.empty(starts[own]) && !l.empty(starts[own+1]) {
					q = starts[own]
					break
				}
			}
			own = max(own, 0)
		}
	}
	if !l.verb {
		q = min(q, l.last(q))
	}
	return l.unlessHere(q, Out)
}

func (l literal) pair() (Goal, bool) {
	for from := l.p; from < l.end(l.p); from++ {
		for _, kind := range []string{"()", "[]", "{}"} {
			at := strings.IndexByte(kind, l.text[from])
			if at < 0 {
				continue
			}
			deep := 0
			for q := from; q >= 0 && q < len(l.text); q += 1 - 2*at {
				deep += strings.Count(kind[:1], l.text[q:q+1]) - strings.Count(kind[1:], l.text[q:q+1])
				if deep == 0 {
					return Goal{q, In}, true
				}
			}
			return Goal{}, false
		}
	}
	return Goal{}, false
}

func (l literal) go1(key byte) (Goal, bool) {
	switch key {
	case 'w', 'W':
		return l.word(key == 'W')
	case 'b', 'B':
		return l.ahead(key == 'B')
	case 'e', 'E':
		return l.wordEnd(key == 'E')
	case '{', '}':
		return l.paragraph(key)
	case '%':
		return l.pair()
	case '$', 'j', 'k', 'G', 'g':
		return l.toLine(key)
	}
	return l.inLine(key)
}

// find: the places of c that count, nearest first; the N-th of them.
func (l literal) find(f Find, again bool) (Goal, bool) {
	var places []int
	short := f.Key == 't' || f.Key == 'T'
	step, kind := 1, In
	if f.Key == 'F' || f.Key == 'T' {
		step, kind = -1, Out
	}
	for q := l.p + step; q >= l.begin(l.p) && q < l.end(l.p); q += step {
		if l.text[q] == f.Byte && !(again && short && q == l.p+step) {
			places = append(places, q)
		}
	}
	if len(places) < l.n() {
		return Goal{}, false
	}
	q := places[l.n()-1]
	if short {
		q -= step
	}
	return Goal{q, kind}, true
}

// eachStart goes through all texts of these bytes up to a length, all places, some numbers, with and without a verb.
func eachStart(bytes string, length int, do func(Start)) {
	all := []string{""}
	for i := 0; i < len(all); i++ {
		if len(all[i]) < length {
			for j := range len(bytes) {
				all = append(all, all[i]+bytes[j:j+1])
			}
		}
	}
	for _, content := range all {
		for at := range len(content) + 1 {
			for _, count := range []int{0, 1, 2, 3, 99} {
				do(Start{Text: text.Text(content), At: at, Count: count})
				do(Start{Text: text.Text(content), At: at, Count: count, Verb: true})
			}
		}
	}
}

func literally(s Start) literal { return literal{string(s.Text), s.At, s.Count, s.Verb} }

func compare(t *testing.T, keys, bytes string, length int) {
	t.Helper()
	eachStart(bytes, length, func(s Start) {
		for i := range len(keys) {
			got, is := Go(keys[i], s)
			want, wants := literally(s).go1(keys[i])
			if got != want || is != wants {
				t.Fatalf("P6: %c of %+v: %v, %v, want %v, %v", keys[i], s, got, is, want, wants)
			}
		}
	})
}

func TestLinesLiterally(t *testing.T) { compare(t, "hl0^$jkGg{}", "a \n", 6) }

func TestWordsLiterally(t *testing.T) { compare(t, "wWbBeE", "a. \n", 6) }

func TestBytesLiterally(t *testing.T) { compare(t, "wWbBeE^", "_\xff\t\r\n", 4) }

func TestBracketsLiterally(t *testing.T) {
	compare(t, "%", "()\n", 7)
	compare(t, "%", "[]({", 5)
	compare(t, "%", "{}a\n", 5)
}

func TestFindLiterally(t *testing.T) {
	eachStart("ab\n", 6, func(s Start) {
		for _, key := range []byte("ftFT") {
			for _, c := range []byte("ab\n") {
				f := Find{key, c}
				got, is := f.Go(s)
				if want, wants := literally(s).find(f, false); got != want || is != wants {
					t.Fatalf("P6: %c%q of %+v: %v, %v, want %v, %v", key, c, s, got, is, want, wants)
				}
				got, is = f.Again(s)
				if want, wants := literally(s).find(f, true); got != want || is != wants {
					t.Fatalf("P6: %c%q by ; of %+v: %v, %v, want %v, %v", key, c, s, got, is, want, wants)
				}
			}
		}
	})
}

package nib

import (
	"maps"
	"math/rand"
	"regexp"
	"strconv"
	"strings"
	"testing"

	"nib/api"
)

// drawn: parts of commands and whole ones, for keys drawn by lot.
var drawn = strings.Split("h|j|k|w|0|$|G|gg|fa|;|x|2x|X|dw|d2b|dd|2dd|diw|D|J|3J|~|9~|rx|3ry|r\x1b|>>|<j|guiw|gUU|p|P|3p|\"ap|\"bP|yy|\"ayw|\"byj|Y|ix\x1b|aab\n c\x1b|I\x08\x1b|A.\x1b|oq\x1b|O\x1b|cwu\x1b|2sz\x1b|S\x1b|C-\x1b|cfa.\x1b|i|a|o|cc|c0|\x1b|\x1b|u|u|u|2u|99u|\x12|\x12|2\x12|99\x12|.|.|.|2.|\"a.|\"b9.|v|V|vd|vec|vU|V>|Vy|viwcn\x1b|vo|q|2|9|\"|\"a|d|g|r|c", "|")

// commands of Normal, with a name and a number ahead.
var (
	undo    = command(`u`)
	redo    = command(`\x12`)
	dot     = command(`\.`)
	whole   = command(`(?:[d><xXDpPr~J]|g[uU]).*`)
	anyMore = command(`.*`)
)

func command(keys string) *regexp.Regexp {
	return regexp.MustCompile(`(?s)^(?:"["a-z])?([1-9][0-9]*)?` + keys + `$`)
}

// walker knows of an editor only what State tells after each key, and what the document says that follows.
type walker struct {
	*Editor
	keys   string    // of the command that is not over
	before api.State // ahead of it
	wrote  bool      // it began Insert
	failed int
	texts  []string // behind each change
	now    int      // which of them is the text
	doing  string   // the keys of the last one
	other  *Editor  // is typed the keys of the doing for each dot
}

func walk(t *testing.T, text string) *walker {
	return &walker{Editor: open(t, text), other: open(t, text), before: api.State{Text: text}, texts: []string{text}}
}

// press types a key; when a command is over, what it did must be what follows.
func (w *walker) press(t *testing.T, key string) {
	w.keys += key
	w.failed += w.Type(key)
	s := w.State()
	w.wrote = w.wrote || s.Mode == api.Insert
	if s.Waiting || s.Mode == api.Insert {
		return
	}
	w.follow(t, s)
	if w.isDoing() {
		w.doing = w.keys
	}
	w.keys, w.before, w.wrote, w.failed = "", s, false, 0
}

func (w *walker) follow(t *testing.T, s api.State) {
	switch {
	case w.is(undo):
		w.wander(t, s, -w.number())
	case w.is(redo):
		w.wander(t, s, w.number())
	case s.Text != w.texts[w.now]:
		w.now++
		w.texts = append(w.texts[:w.now:w.now], s.Text)
	}
	fails := 0
	if keys := w.keys; w.is(dot) {
		fails = w.again()
	} else {
		fails = w.other.Type(keys)
	}
	if fails != w.failed || s != w.other.State() || !maps.Equal(registersOf(w.Editor), registersOf(w.other)) {
		t.Fatalf("P9: %q, typed %q behind the doing %q: %+v, %d failed; by the keys of the doing: %+v, %d failed", w.before.Text, w.keys, w.doing, s, w.failed, w.other.State(), fails)
	}
	if w.failed > 0 && s != w.before {
		t.Fatalf("P4: %q, typed %q: it failed, and from %+v there is %+v", w.before.Text, w.keys, w.before, s)
	}
}

func (w *walker) is(command *regexp.Regexp) bool {
	return w.before.Mode == api.Normal && command.MatchString(w.keys)
}

func (w *walker) number() int {
	n, err := strconv.Atoi(anyMore.FindStringSubmatch(w.keys)[1])
	if err != nil {
		return 1
	}
	return min(n, api.MaxCount)
}

func (w *walker) isDoing() bool {
	if w.failed > 0 || w.before.Mode != api.Normal {
		return false
	}
	return w.wrote || !strings.HasSuffix(w.keys, "\x1b") && w.is(whole)
}

// again types the keys of the doing one by one, until one fails.
func (w *walker) again() int {
	if w.doing == "" {
		return 1
	}
	for i := range len(w.doing) {
		if w.other.Type(w.doing[i:i+1]) > 0 {
			return 1
		}
	}
	return 0
}

// wander: where u and Redo lead, and the cursor.
func (w *walker) wander(t *testing.T, s api.State, by int) {
	to := min(max(w.now+by, 0), len(w.texts)-1)
	want := api.State{Text: w.texts[to], At: w.before.At}
	if want.Text != w.before.Text {
		want.At = firstDifference(want.Text, w.before.Text)
	}
	if s != want || (w.failed == 1) != (to == w.now) {
		t.Fatalf("P9: %q, typed %q: %+v, %d failed, want %+v", w.before.Text, w.keys, s, w.failed, want)
	}
	w.now = to
}

// firstDifference is the first place at which texts differ, but in the first of them no line's end, if there is a byte ahead of that.
func firstDifference(text, other string) int {
	place := 0
	for place < len(text) && place < len(other) && text[place] == other[place] {
		place++
	}
	ends := place == len(text) || text[place] == '\n'
	if ends && place > 0 && text[place-1] != '\n' {
		place--
	}
	return place
}

// TestDrawn: u, Redo and . of many keys, one by one; then all is undone, and done again.
func TestDrawn(t *testing.T) {
	r := rand.New(rand.NewSource(4))
	for range 2000 {
		text := ""
		for range r.Intn(12) {
			text += []string{"foo", "a", " ", "\n", "\n\n", "a.b", "  x", "(a)"}[r.Intn(8)]
		}
		w := walk(t, text)
		for range 40 {
			for _, key := range []byte(drawn[r.Intn(len(drawn))]) {
				w.press(t, string([]byte{key}))
			}
		}
		w.press(t, "\x1b")
		w.press(t, "\x1b")
		w.goBack(t)
	}
}

// goBack: as many u as there were changes bring the first text back, as many Redo the last one; one more fails.
func (w *walker) goBack(t *testing.T) {
	t.Helper()
	last := len(w.texts) - 1
	w.Type(strings.Repeat("\x12", last-w.now))
	for _, c := range []struct{ key, want string }{{"u", w.texts[0]}, {"\x12", w.texts[last]}} {
		if fails := w.Type(strings.Repeat(c.key, last)); fails != 0 || w.State().Text != c.want {
			t.Fatalf("P13: %d %q: %q, %d failed, want %q", last, c.key, w.State().Text, fails, c.want)
		}
		if fails := w.Type(c.key); fails != 1 || w.State().Text != c.want {
			t.Fatalf("P13: %q behind all of them: %q, %d failed", c.key, w.State().Text, fails)
		}
	}
}

package nib

import (
	"maps"
	"math/rand"
	"strings"
	"testing"

	"nib/api"
)

var texts = []string{"", "\n", "a\n", "  ", " \n\t\n", sample, "\x00\x1b\xff\n\x80", strings.Repeat("(a.b \n", 166), strings.Repeat("x", api.MaxText)}

// sound: what holds of every state.
func sound(t *testing.T, keys string, s api.State) {
	t.Helper()
	if s.At < 0 || s.At > len(s.Text) || s.Anchor < 0 || s.Anchor > len(s.Text) || len(s.Text) > api.MaxText {
		t.Fatalf("P1: typed %q: %+v", keys, s)
	}
	if s.Mode != api.Insert && s.At > 0 && s.Text[s.At-1] != '\n' && (s.At == len(s.Text) || s.Text[s.At] == '\n') {
		t.Fatalf("P6: typed %q: the cursor is behind its line's last place: %+v", keys, s)
	}
	if s.Mode != api.Visual && s.Mode != api.Lines && s.Anchor != 0 {
		t.Fatalf("P5: typed %q: an anchor without a mark: %+v", keys, s)
	}
}

func TestAllPairsOfBytes(t *testing.T) {
	for _, text := range []string{"", sample} {
		for _, begin := range []string{"", "w", "v", "V", "2", "d", "c", "gU", "di", "va", "\"a", "i", "C", "r", "yyxxu"} {
			for pair := range 1 << 16 {
				keys := begin + string([]byte{byte(pair >> 8), byte(pair)})
				e := open(t, text)
				if fails := e.Type(keys); fails < 0 || fails > len(keys) {
					t.Fatalf("P4: typed %q: %d failed", keys, fails)
				}
				sound(t, keys, e.State())
			}
		}
	}
}

// someKeys are of all bytes, but mostly ones that begin commands.
func someKeys(r *rand.Rand) string {
	keys := make([]byte, r.Intn(60))
	for i := range keys {
		keys[i] = byte(r.Intn(256))
		if r.Intn(10) > 0 {
			keys[i] = normalKeys[r.Intn(len(normalKeys))]
		}
	}
	return string(keys)
}

// TestParts: keys typed in parts, with looks between them, are the keys typed at once.
func TestParts(t *testing.T) {
	r := rand.New(rand.NewSource(1))
	for range 5000 {
		text, keys := texts[r.Intn(len(texts))], someKeys(r)
		whole, parts, other := open(t, text), open(t, text), open(t, text)
		fails := whole.Type(keys)
		sum := 0
		for i := range len(keys) {
			sum += parts.Type(keys[i : i+1])
			sound(t, keys[:i+1], parts.State())
			before, state := registersOf(parts), parts.State()
			if parts.State() != state || !maps.Equal(registersOf(parts), before) {
				t.Fatalf("P2: typed %q: State or Register changes something", keys)
			}
		}
		if sum != fails || parts.State() != whole.State() || !maps.Equal(registersOf(parts), registersOf(whole)) {
			t.Fatalf("P2: %q, typed %q: %+v, %d failed; in parts %+v, %d", text, keys, whole.State(), fails, parts.State(), sum)
		}
		if other.State() != (api.State{Text: text}) || len(registersOf(other)) > 0 {
			t.Fatalf("P2: typed %q, and another editor has changed: %+v", keys, other.State())
		}
	}
}

// TestWaysKeepText: whatever ways, y, marks and failing keys do, the text stays.
func TestWaysKeepText(t *testing.T) {
	const keys = wayKeys + "123456789yYvVq\x00\xff\x1b\x12."
	r := rand.New(rand.NewSource(2))
	for range 5000 {
		text := texts[r.Intn(len(texts))]
		typed := make([]byte, 40)
		for i := range typed {
			typed[i] = keys[r.Intn(len(keys))]
		}
		e := open(t, text)
		e.Type(string(typed))
		if s := e.State(); s.Text != text {
			t.Fatalf("P13: %q, typed %q: the text is %q", text, typed, s.Text)
		}
	}
}

// TestManyKeys: a long way to go ends, too.
func TestManyKeys(t *testing.T) {
	for _, text := range texts {
		e := open(t, text)
		e.Type(strings.Repeat("99wG99}gg99eG$99b%99j99fa;", 500))
		sound(t, "many keys", e.State())
	}
}

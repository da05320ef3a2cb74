package nib

import (
	"strings"
	"testing"

	"nib/api"
)

func TestUndo(t *testing.T) {
	checkEdits(t, "P9, u", []edit{
		{"foo bar", "dwu", "foo bar", 0, 0}, {"foo bar", "dwdwu", "bar", 0, 0}, {"foo bar", "dwdwuu", "foo bar", 0, 0}, {"foo bar", "dwdw2u", "foo bar", 0, 0}, {"foo bar", "dwdw99u", "foo bar", 0, 0}, {"foo bar", "xxx2u", "oo bar", 0, 0}, {"foo bar", "\"axxx\"a2u", "oo bar", 0, 0},
		{"foo", "u", "foo", 0, 1}, {"foo", "9u", "foo", 0, 1}, {"foo", "xuu", "foo", 0, 1}, {"foo", "xuuuu", "foo", 0, 3}, {"foo", "x9uu", "foo", 0, 1}, {"foo", "lywu", "foo", 1, 1}, {"foo", "vl\x1bu", "foo", 1, 1},
		{"abcdef", "wxhhu", "abcdef", 5, 0},
		{"a b c", "x2lxu", " b c", 2, 0},
	})
	checkEdits(t, "P9, the cursor of u", []edit{
		{"foo bar baz", "wdwu", "foo bar baz", 6, 0}, {"aaa", "xu", "aaa", 2, 0}, {"aab", "xu", "aab", 1, 0}, {"ab", "$xu", "ab", 1, 0}, {"ab", "Acd\x1bu", "ab", 1, 0}, {"ab\ncd", "Ax\x1bu", "ab\ncd", 1, 0}, {"ab\ncd", "lDu", "ab\ncd", 1, 0}, {"a\nb", "Jggu", "a\nb", 0, 0}, {"a\nb", "jddu", "a\nb", 0, 0}, {"a\n\nb", "jddu", "a\n\nb", 2, 0}, {"a\nb\nc", "ddGu", "a\nb\nc", 0, 0}, {"a b", "2x$u", "a b", 0, 0}, {"a", "oxx\x1bu", "a", 0, 0}, {"", "ix\x1bu", "", 0, 0}, {"ab", "~~2u", "ab", 0, 0}, {"ab cd", "x$x2u", "ab cd", 0, 0}, {"a", "i\n\x1bu", "a", 0, 0},
		{"ab", "l~h~0l2u", "ab", 0, 0}, {"abc", "~h~2u", "abc", 1, 0}, {"abc", "~h~$2u", "abc", 2, 0}, // the texts do not differ: where it was
		{"abc", "~h~$u", "Abc", 0, 0},
	})
}

// TestChanges: what is one change, and what is none.
func TestChanges(t *testing.T) {
	checkEdits(t, "P9, with all of Insert", []edit{
		{"foo", "ixyz\x1bu", "foo", 0, 0}, {"foo", "ixyz\x1biq\x1bu", "xyzfoo", 2, 0}, {"foo", "ix\ny\x08z\x1bu", "foo", 0, 0}, {"foo", "cwbar\x1bu", "foo", 0, 0}, {"foo", "Sbar\nbaz\x1bu", "foo", 0, 0}, {"foo", "obar\x1bu", "foo", 2, 0}, {"foo", "Obar\x1bu", "foo", 0, 0}, {"foo", "sx\x1bsy\x1bu", "xoo", 0, 0}, {"foo bar", "vecx\x1bu", "foo bar", 0, 0}, {"a\nb", "Vjcx\x1bu", "a\nb", 0, 0}, {"foo", "A\x08\x08\x1bu", "foo", 1, 0}, {"foo", "cwx\x1b\x1bu\x1bu", "foo", 0, 1},
	})
	checkEdits(t, "P9, a command that made no other text", []edit{
		{"foo", "i\x1bu", "foo", 0, 1}, {"foo", "ix\x08\x1bu", "foo", 0, 1}, {"foo", "cwfoo\x1bu", "foo", 2, 1}, {"foo", "rfu", "foo", 0, 1}, {"123", "~u", "123", 1, 1}, {"foo", "<<u", "foo", 0, 1}, {"foo", "guuu", "foo", 0, 1}, {"", "ddu", "", 0, 1}, {"", "ccu\x1bu", "", 0, 0}, {"foo", "xi\x1bu", "foo", 0, 0}, {"foo", "xrou", "foo", 0, 0}, {"foo", "c0\x1bu", "foo", 0, 1}, {"\n", ">>u", "\n", 0, 1}, {"foo", "A\x08o\x1bu", "foo", 2, 1},
	})
	checkEdits(t, "P9, each command", []edit{
		{"foo bar", "xu", "foo bar", 0, 0}, {"foo", "$Xu", "foo", 2, 0}, {"foo", "Du", "foo", 0, 0}, {"foo", "ylpu", "foo", 1, 0}, {"foo", "yl3Pu", "foo", 1, 0}, {"foo", "rxu", "foo", 0, 0}, {"foo", "3~u", "foo", 0, 0}, {"a\nb", "Ju", "a\nb", 0, 0}, {"a", ">>u", "a", 0, 0}, {"  a", "<<u", "  a", 0, 0}, {"A", "guuu", "A", 0, 0}, {"a", "gUlu", "a", 0, 0}, {"foo", "vdu", "foo", 0, 0}, {"foo", "Vdu", "foo", 0, 0}, {"foo", "vlUu", "foo", 0, 0}, {"a\nb", "Vj>u", "a\nb", 0, 0}, {"foo", "x.u", "oo", 1, 0}, {"foo", "x.uu", "foo", 0, 0}, {"foo", "ixy\x1b.u", "xyfoo", 1, 0}, {"foo", "ixy\x1b.uu", "foo", 0, 0},
	})
}

func TestRedo(t *testing.T) {
	checkEdits(t, "P9, Redo", []edit{
		{"foo bar", "dwu\x12", "bar", 0, 0}, {"foo bar", "xxuu\x12", "oo bar", 0, 0}, {"foo bar", "xxuu\x12\x12", "o bar", 1, 0}, {"foo bar", "xxuu2\x12", "o bar", 0, 0}, {"foo bar", "xx2u99\x12", "o bar", 0, 0}, {"foo bar", "xxx3u2\x12u", "oo bar", 1, 0}, {"foo", "ixy\x1bu\x12", "xyfoo", 0, 0}, {"foo", "xu\x12u\x12", "oo", 0, 0}, {"foo", "xu\"a\x12", "oo", 0, 0},
		{"foo", "\x12", "foo", 0, 1}, {"foo", "9\x12", "foo", 0, 1}, {"foo", "x\x12", "oo", 0, 1}, {"foo", "xu\x12\x12", "oo", 0, 1}, {"foo", "xu9\x12\x12", "oo", 0, 1}, {"foo", "d\x12", "foo", 0, 1},
		{"ab cd", "wDu\x12", "ab ", 2, 0}, {"ab", "Ac\x1b0u\x12", "abc", 2, 0}, {"a\nb", "Gddu\x12", "a", 0, 0}, {"a\nb", "ddu\x12", "b", 0, 0}, {"abc", "~h~2ul2\x12", "abc", 2, 0}, {"a", "ob\x1bu\x12", "a\nb", 0, 0},
	})
	checkEdits(t, "P9, a change behind u", []edit{
		{"foo bar", "xux\x12", "oo bar", 0, 1}, {"foo bar", "xxuux\x12", "oo bar", 0, 1}, {"foo bar", "xxu~\x12", "oO bar", 2, 1}, {"foo bar", "xxu~\x12uu", "foo bar", 0, 1}, {"foo", "xuiy\x1b\x12", "yfoo", 0, 1}, {"foo", "xuvd\x12", "oo", 0, 1}, {"foo", "xu.\x12", "oo", 0, 1},
		{"foo", "xu0yl\x12", "oo", 0, 0}, {"foo", "xuq\x12", "oo", 0, 1}, {"foo", "xu0rf\x12", "oo", 0, 0}, {"foo", "xui\x1b\x12", "oo", 0, 0}, {"foo", "xuiy\x08\x1b\x12", "oo", 0, 0}, {"foo", "xuv\x1b\x12", "oo", 0, 0}, {"foo", "xufq\x12", "oo", 0, 1}, // none
	})
}

// TestUndoKeeps: u and Redo have to do with the text alone: registers and what was looked for stay.
func TestUndoKeeps(t *testing.T) {
	e := open(t, "a.b.c")
	e.Type("f.\"adlylu")
	if got := registersOf(e); e.State() != (api.State{Text: "a.b.c", At: 1}) || got['a'] != (kept{".", false}) || got['"'] != (kept{"b", false}) {
		t.Errorf("P9: behind u: %+v, %+v", e.State(), got)
	}
	if fails := e.Type(";"); fails != 0 || e.State().At != 3 {
		t.Errorf("P9: behind u and ;: %+v, %d failed", e.State(), fails)
	}
	e.Type("\x12")
	if got := registersOf(e); e.State().Text != "ab.c" || got['a'] != (kept{".", false}) || got['"'] != (kept{"b", false}) {
		t.Errorf("P9: behind Redo: %+v, %+v", e.State(), got)
	}
}

// TestManyChanges: no change is too long ago.
func TestManyChanges(t *testing.T) {
	text := strings.Repeat("x", api.MaxText)
	e := open(t, text)
	e.Type(strings.Repeat("~0", 20001))
	if s := e.State().Text; s != "X"+text[1:] {
		t.Fatalf("P9: 20001 ~: %s", brief(s))
	}
	if fails := e.Type(strings.Repeat("u", 20002)); fails != 1 || e.State().Text != text {
		t.Errorf("P13: 20002 u: %d failed, %s", fails, brief(e.State().Text))
	}
	if fails := e.Type(strings.Repeat("99\x12", 204)); fails != 1 || e.State().Text != "X"+text[1:] {
		t.Errorf("P13: all Redo: %d failed, %s", fails, brief(e.State().Text))
	}
}

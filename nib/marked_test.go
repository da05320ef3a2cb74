package nib

import (
	"strings"
	"testing"

	"nib/api"
)

func TestMarkedVerbs(t *testing.T) {
	checkEdits(t, "P11, Visual", []edit{
		{"foo bar", "vd", "oo bar", 0, 0}, {"foo bar", "ved", " bar", 0, 0}, {"foo bar", "vwx", "ar", 0, 0}, {"foo bar", "$vbd", "foo ", 3, 0}, {"foo bar", "v$d", "", 0, 0}, {"foo bar", "ve9d", " bar", 0, 0}, {"foo bar", "vwobd", "ar", 0, 1}, {"ab\ncd", "lvjd", "a", 0, 0}, {"ab\ncd", "vjd", "d", 0, 0}, {"ab\n\ncd", "vjd", "cd", 0, 0}, {"ab\n\ncd", "jvd", "ab\ncd", 3, 0}, {"ab\n\ncd", "jvjd", "ab\nd", 3, 0}, {"a\n", "vjd", "", 0, 0}, {"a\n\n", "jvjd", "a\n", 2, 0}, {"\n", "vd", "", 0, 0},
		{"foo bar", "vecx\x1b", "x bar", 0, 0}, {"foo bar", "wvesx\x1b", "foo x", 4, 0}, {"ab\n\ncd", "jvcx\x1b", "ab\nxcd", 3, 0}, {"a\n", "jvcx\x1b", "a\nx", 2, 0}, {"", "vsx\x1b", "x", 0, 0},
		{"foo bar", "vwy", "foo bar", 0, 0}, {"foo bar", "$vby", "foo bar", 4, 0}, {"foo bar", "wvey", "foo bar", 4, 0}, {"foo bar", "wvhhy", "foo bar", 2, 0}, {"ab\ncd", "lvjy", "ab\ncd", 1, 0}, {"ab\ncd", "G$vky", "ab\ncd", 1, 0}, {"a\n\n", "jvjy", "a\n\n", 2, 0},
		{"Foo Bar", "vwu", "foo bar", 0, 0}, {"Foo Bar", "wvlU", "Foo BAr", 4, 0}, {"Foo Bar", "$vbU", "Foo BAR", 4, 0}, {"Foo Bar", "v9u", "foo Bar", 0, 0}, {"Ab\nCd", "vju", "ab\ncd", 0, 0}, {"Ab\nCd", "lvj3U", "AB\nCD", 1, 0},
		{"a\nb\nc", "vj>", "  a\n  b\nc", 2, 0}, {"a\nb\nc", "jvj3>", "a\n  b\n  c", 4, 0}, {"  a\n b", "vj<", "a\nb", 0, 0}, {"a\nb", "jvk>", "  a\n  b", 2, 0}, {"a\n\nb", "jv>", "a\n\nb", 2, 0}, {"ab", "lv<", "ab", 0, 0},
	})
	checkEdits(t, "P11, Lines", []edit{
		{"a\n b\nc", "Vd", " b\nc", 1, 0}, {"a\n b\nc", "Vjd", "c", 0, 0}, {"a\n b\nc", "GVkx", "a", 0, 0}, {"a\n b\nc", "VGd", "", 0, 0}, {"a\n b\nc", "GVd", "a\n b", 3, 0}, {"a\n b\nc", "jV9d", "a\nc", 2, 0}, {"", "Vd", "", 0, 0}, {"\n", "Vd", "", 0, 0}, {"a\n", "jVd", "a", 0, 0},
		{"a\n b\nc", "Vcx\x1b", "x\n b\nc", 0, 0}, {"a\n b\nc", "jVjsx\x1b", "a\nx", 2, 0}, {"a\n b\nc", "VGcx\x1b", "x", 0, 0}, {"", "Vcx\x1b", "x", 0, 0},
		{"abc\nd\nefg", "llVy", "abc\nd\nefg", 2, 0}, {"abc\nd\nefg", "llVjy", "abc\nd\nefg", 0, 0}, {"abc\nd\nefg", "llVGy", "abc\nd\nefg", 0, 0}, {"abc\nd\nefg", "llV2jy", "abc\nd\nefg", 2, 0}, {"abc\nd\nefg", "G$Vky", "abc\nd\nefg", 4, 0}, {"abc\nd\nefg", "jVG$y", "abc\nd\nefg", 4, 0}, {"abc\nd\nefg", "G$Vgg$y", "abc\nd\nefg", 2, 0},
		{"Ab\nCd", "lVu", "ab\nCd", 1, 0}, {"Ab\nCd", "lVjU", "AB\nCD", 1, 0}, {"Ab\nCd", "jlVkU", "AB\nCD", 1, 0}, {"Ab\nCd", "VjlU", "AB\nCD", 1, 0},
		{"a\n b\n\nc", "V>", "  a\n b\n\nc", 2, 0}, {"a\n b\n\nc", "VG>", "  a\n   b\n\n  c", 2, 0}, {"a\n b\n\nc", "GVk2>", "a\n b\n\n  c", 5, 0}, {"   a\n b", "V<", " a\n b", 1, 0}, {"   a\n b", "jVk<", " a\nb", 1, 0},
	})
	checkEdits(t, "P11, from the one to the other", []edit{
		{"a\nb\nc", "vjVd", "c", 0, 0}, {"ab\ncd", "Vlvd", "\ncd", 0, 0}, {"ab\ncd", "vVvd", "b\ncd", 0, 0}, {"ab cd", "v\x1bwvd", "ab d", 3, 0}, {"ab cd", "veyved", " cd", 0, 0}, {"ab cd", "vedx", "cd", 0, 0},
	})
}

func TestMarkedObjects(t *testing.T) {
	const text = "foo (a b) \"q\"\nx\n\n\ny"
	for _, c := range []struct {
		text, keys string
		anchor, at int
		fails      int
		lines      bool // the mode is Lines
	}{
		{text, "viw", 0, 2, 0, false}, {text, "vaw", 0, 3, 0, false}, {text, "v3laW", 3, 5, 0, false}, {text, "v6li(", 5, 7, 0, false}, {text, "v6la)", 4, 8, 0, false}, {text, "va\"", 10, 12, 0, false}, {text, "v$i\"", 11, 11, 0, false}, {text, "v9iw", 0, 2, 0, false}, {text, "ve\"aiw", 0, 2, 0, false},
		{"ab\ncd\n\nef", "vip", 0, 3, 0, false}, {"ab\ncd\n\nef", "jlVip", 0, 3, 0, true}, {"ab\ncd\n\nef", "GlVap", 6, 7, 0, true}, {"ab\ncd\n\nef", "2jvlap", 6, 7, 1, false},
		{text, "vip", 0, 14, 0, false}, {text, "vap", 0, 17, 0, false}, {text, "Vip", 0, 14, 0, true}, {text, "jVap", 0, 17, 0, true}, {text, "2jVip", 16, 17, 0, true}, {text, "GVap", 16, 18, 0, true}, {text, "GV$ip", 18, 18, 0, true}, {text, "Viw", 0, 2, 0, true}, {text, "$Vbi\"", 11, 11, 0, true},
		{text, "vlvvi(", 1, 1, 1, false}, {text, "wvei(", 5, 7, 0, false}, {text, "2jviw", 16, 16, 1, false}, {text, "vwi{", 0, 4, 1, false}, {text, "vwi'", 0, 4, 1, false}, {text, "Vjaq", 0, 14, 1, true},
		{"()", "vi(", 0, 0, 1, false}, {"a\"\"", "vi\"", 0, 0, 1, false}, {"", "viw", 0, 0, 1, false}, {"", "vip", 0, 0, 0, false}, {"", "Vap", 0, 0, 1, true}, {"a  ", "lvlaw", 1, 2, 1, false},
		{"(a\n)", "vi(", 1, 1, 0, false},  // the last place is a line's end, where the cursor can't be
		{"(\na)", "vji(", 1, 2, 0, false}, // the first one, where the anchor can
		{"(\na)", "vji(o", 2, 0, 0, false},
		{"(\n\n)", "jvi(", 1, 2, 0, false},
	} {
		mode := api.Visual
		if c.lines {
			mode = api.Lines
		}
		e := open(t, c.text)
		fails := e.Type(c.keys)
		if s := e.State(); fails != c.fails || s != (api.State{Text: c.text, At: c.at, Anchor: c.anchor, Mode: mode}) {
			t.Errorf("P11: %q, typed %q: %+v, %d failed, want from %d to %d, %d failed", c.text, c.keys, s, fails, c.anchor, c.at, c.fails)
		}
	}
	checkEdits(t, "P11, objects and verbs", []edit{
		{text, "viwd", text[3:], 0, 0}, {text, "v6li(d", "foo () \"q\"\nx\n\n\ny", 5, 0}, {text, "v6li(cx\x1b", "foo (x) \"q\"\nx\n\n\ny", 5, 0}, {text, "Vipd", "\n\ny", 0, 0}, {text, "vapd", "y", 0, 0}, {text, "Vapd", "y", 0, 0}, {text, "2jVap>", "foo (a b) \"q\"\nx\n\n\n  y", 16, 0}, {text, "vwi(U", "foo (A B) \"q\"\nx\n\n\ny", 5, 0},
		{"(\na)", "vji(d", "()", 1, 0}, {"(\na)", "vji(y", "(\na)", 0, 0}, {"(\na)", "vji(od", ")", 0, 0}, {"(\n\n)", "jvi(d", "()", 1, 0},
	})
}

// TestNothingMarked: at the text's end there is nothing to take, and the mode stays; c and lines need nothing.
func TestNothingMarked(t *testing.T) {
	for _, text := range []string{"", "a\n", "\n\n"} {
		for _, key := range []byte("dxy><uU") {
			e := open(t, text)
			if fails := e.Type("Gv\"a" + string(key)); fails != 1 || e.State() != (api.State{Text: text, At: len(text), Anchor: len(text), Mode: api.Visual}) || len(registersOf(e)) > 0 {
				t.Errorf("P11: %q, typed Gv and %c: %d failed, %+v", text, key, fails, e.State())
			}
			e = open(t, text)
			if fails := e.Type("GV" + string(key)); fails != 0 || e.State().Mode != api.Normal {
				t.Errorf("P11: %q, typed GV and %c: %d failed, %+v", text, key, fails, e.State())
			}
		}
		for _, keys := range []string{"Gvc", "Gvs", "GVc", "GVs"} {
			e := open(t, text)
			if fails := e.Type(keys); fails != 0 || e.State() != inserting(text, len(text)) {
				t.Errorf("P11: %q, typed %q: %d failed, %+v", text, keys, fails, e.State())
			}
		}
	}
}

// TestMarkedBytes: what each byte does to what is marked: only verbs, and Escape and the mode's own key, end the mode.
func TestMarkedBytes(t *testing.T) {
	for c := range 256 {
		key := string([]byte{byte(c)})
		for begin, mode := range map[string]int{"v": api.Visual, "V": api.Lines} {
			e := open(t, "foo\nbar\nbaz")
			e.Type("jl" + begin + key)
			want := mode
			switch {
			case strings.IndexByte("cs", byte(c)) >= 0:
				want = api.Insert
			case strings.IndexByte("dxy><uU\x1b"+begin, byte(c)) >= 0:
				want = api.Normal
			case key == "v" || key == "V":
				want = api.Visual + api.Lines - mode
			}
			if s := e.State(); s.Mode != want {
				t.Errorf("P11: %s and the byte %d: %+v, want mode %d", begin, c, s, want)
			}
		}
	}
}

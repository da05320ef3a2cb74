package nib

import (
	"strings"
	"testing"

	"nib/api"
)

func inserting(text string, at int) api.State {
	return api.State{Text: text, At: at, Mode: api.Insert}
}

func TestInsertBegins(t *testing.T) {
	for _, c := range []struct {
		text, keys string
		want       api.State
	}{
		{"ab", "i", inserting("ab", 0)}, {"ab", "li", inserting("ab", 1)}, {"", "i", inserting("", 0)}, {"ab", "9i", inserting("ab", 0)}, {"ab", "\"a9i", inserting("ab", 0)},
		{"ab", "a", inserting("ab", 1)}, {"ab", "la", inserting("ab", 2)}, {"", "a", inserting("", 0)}, {"a\n\nb", "ja", inserting("a\n\nb", 2)}, {"a\nb", "a", inserting("a\nb", 1)}, {"ab", "9a", inserting("ab", 1)},
		{" \tab", "I", inserting(" \tab", 2)}, {" \tab", "$I", inserting(" \tab", 2)}, {"a\n  \nb", "jI", inserting("a\n  \nb", 4)}, {"  ", "I", inserting("  ", 2)}, {"", "I", inserting("", 0)}, {"a\n\nb", "jI", inserting("a\n\nb", 2)}, {"ab", "$9I", inserting("ab", 0)},
		{"ab", "A", inserting("ab", 2)}, {"ab\nc", "A", inserting("ab\nc", 2)}, {"", "A", inserting("", 0)}, {"\n", "A", inserting("\n", 0)}, {"ab", "9A", inserting("ab", 2)},
		{"ab", "o", inserting("ab\n", 3)}, {"ab\ncd", "o", inserting("ab\n\ncd", 3)}, {"ab\ncd", "lo", inserting("ab\n\ncd", 3)}, {"ab\ncd", "jo", inserting("ab\ncd\n", 6)}, {" \ta\nb", "o", inserting(" \ta\n \t\nb", 6)}, {"", "o", inserting("\n", 1)}, {"  ", "o", inserting("  \n  ", 5)}, {"a\n\nb", "jo", inserting("a\n\n\nb", 3)}, {"a", "9o", inserting("a\n", 2)},
		{"ab", "O", inserting("\nab", 0)}, {"ab\ncd", "jO", inserting("ab\n\ncd", 3)}, {"ab\ncd", "jlO", inserting("ab\n\ncd", 3)}, {" \ta\nb", "$O", inserting(" \t\n \ta\nb", 2)}, {"", "O", inserting("\n", 0)}, {"  ", "O", inserting("  \n  ", 2)}, {"a", "9O", inserting("\na", 0)},
		{"ab cd", "cw", inserting(" cd", 0)}, {"ab cd", "wC", inserting("ab ", 3)}, {"ab cd", "ws", inserting("ab d", 3)}, {"ab\ncd", "$s", inserting("a\ncd", 1)}, {"ab\ncd", "C", inserting("\ncd", 0)}, {"ab\ncd", "jS", inserting("ab\n", 3)}, {"a\nb\nc", "2S", inserting("\nc", 0)}, {"", "s", inserting("", 0)}, {"", "C", inserting("", 0)}, {"a\n\nb", "js", inserting("a\n\nb", 2)}, {"a\n\nb", "j2C", inserting("a\n\nb", 2)}, {"a\n\nb", "j9s", inserting("a\n\nb", 2)}, {"ab\ncd\ne", "l2C", inserting("a\ne", 1)}, {"a()", "lci(", inserting("a()", 2)},
		{"ab cd", "vec", inserting(" cd", 0)}, {"ab cd", "$vbs", inserting("ab ", 3)}, {"a\nb\nc", "Vjc", inserting("\nc", 0)}, {"a\nb\nc", "jVs", inserting("a\n\nc", 2)}, {"a\n", "jvc", inserting("a\n", 2)}, {"", "vs", inserting("", 0)}, {"", "Vc", inserting("", 0)},
	} {
		e := open(t, c.text)
		if fails := e.Type(c.keys); fails != 0 || e.State() != c.want {
			t.Errorf("P9: %q, typed %q: %+v, %d failed, want %+v", c.text, c.keys, e.State(), fails, c.want)
		}
	}
}

func TestInsert(t *testing.T) {
	checkEdits(t, "P10", []edit{
		{"ab", "ixyz\x1b", "xyzab", 2, 0}, {"ab", "axyz\x1b", "axyzb", 3, 0}, {"ab", "Axyz\x1b", "abxyz", 4, 0}, {"  ab", "$Ix\x1b", "  xab", 2, 0}, {"", "ix\x1b", "x", 0, 0}, {"", "i\x1b", "", 0, 0}, {"ab", "i\x1b", "ab", 0, 0}, {"ab", "li\x1b", "ab", 0, 0}, {"ab", "a\x1b", "ab", 0, 0}, {"ab", "la\x1b", "ab", 1, 0}, {"ab", "A\x1b\x1b", "ab", 1, 0}, {"ab\ncd", "ji\x1b", "ab\ncd", 3, 0},
		{"ab", "id3w\"qu.\x1b", "d3w\"qu.ab", 6, 0}, {"ab", "i\t~ \xff\x80\x1b", "\t~ \xff\x80ab", 4, 0}, {"ab", "i1\x1b3l", "1ab", 2, 0},
		{"ab", "li\n\x1b", "a\nb", 2, 0}, {"ab", "A\n\x1b", "ab\n", 3, 0}, {"  ab", "A\nx\x1b", "  ab\n  x", 7, 0}, {"\t ab", "$i\n\x1b", "\t a\n\t b", 5, 0}, {"  ab", "0a\nx\x1b", " \n x ab", 3, 0}, {"  ab", "I\nx\x1b", "  \n  xab", 5, 0}, {"a\n  b", "jA\n\n\x1b", "a\n  b\n  \n  ", 10, 0}, {"a\n  b", "A\n\x1b", "a\n\n  b", 2, 0}, {"  a", "0i\n\x1b", "\n  a", 1, 0}, {"   ", "A\nx\x1b", "   \n   x", 7, 0}, {"a  b", "A\nx\x1b", "a  b\nx", 5, 0},
		{"ab", "A\x08\x1b", "a", 0, 0}, {"ab", "A\x7f\x1b", "a", 0, 0}, {"ab", "A\x08\x7f\x08\x7f\x1b", "", 0, 0}, {"ab", "i\x08\x7f\x1b", "ab", 0, 0}, {"ab\ncd", "ji\x08\x1b", "abcd", 1, 0}, {"ab\ncd", "ji\x7fx\x1b", "abxcd", 2, 0}, {"\n", "ji\x08\x1b", "", 0, 0}, {"  ab", "A\n\x08\x08\x08\x1b", "  ab", 3, 0}, {"a\xc3\xa4", "A\x08\x1b", "a\xc3", 1, 0},
	})
}

// TestInsertBytes: what each byte does in Insert; nothing fails there.
func TestInsertBytes(t *testing.T) {
	for c := range 256 {
		key := string([]byte{byte(c)})
		want := inserting("a\n b"+key+"c", 5)
		switch {
		case c == api.Escape:
			want = api.State{Text: "a\n bc", At: 3}
		case c == api.Return:
			want = inserting("a\n b\n c", 6)
		case c == api.Backspace || c == 127:
			want = inserting("a\n c", 3)
		case c < 32 && c != '\t':
			want = inserting("a\n bc", 4)
		}
		e := open(t, "a\n bc")
		if fails := e.Type("j$i" + key); fails != 0 || e.State() != want {
			t.Errorf("P10: the byte %d: %+v, %d failed, want %+v", c, e.State(), fails, want)
		}
	}
}

func TestBound(t *testing.T) {
	full, most := strings.Repeat("x", api.MaxText), strings.Repeat("x", api.MaxText-1)
	deep := "  " + strings.Repeat("x", api.MaxText-4)
	checkEdits(t, "P12", []edit{
		{full, "iyz\n\t\x1b", full, 0, 0}, {full, "Ay\x1b", full, 999, 0}, {most, "iyz\x1b", "y" + most, 0, 0}, {most, "Ay\n\x08z\x1b", most + "z", 999, 0}, {most, "i\n\n\x1b", "\n" + most, 1, 0}, {full, "i\x08\x1b", full, 0, 0}, {full, "A\x08yz\x1b", most + "y", 999, 0},
		{deep, "A\n\x1b", deep, 997, 0}, {deep, "A\x08\n\x1b", deep[:997] + "\n  ", 999, 0}, {deep, "0i\n\n\n\x1b", "\n\n" + deep, 2, 0}, {deep, "Ay\n\x1b", deep + "y", 998, 0},
		{full, "o", full, 0, 1}, {full, "O", full, 0, 1}, {full, "9lo", full, 9, 1}, {most, "ox\x1b", most + "\n", 1000, 0}, {most, "Ox\x1b", "\n" + most, 0, 0}, {deep, "o", deep, 0, 1}, {deep, "^O", deep, 2, 1}, {deep, "$xo\x1b", deep[:997] + "\n  ", 999, 0}, {deep, "$xO\x1b", "  \n" + deep[:997], 1, 0},
		{full, ">>", full, 0, 1}, {most, ">>", most, 0, 1}, {most, "$>>", most, 998, 1}, {most, "x>>", "  " + most[1:], 2, 0}, {deep, ">>", "  " + deep, 4, 0}, {deep, ">>>>", "  " + deep, 4, 1}, {full, ">l", full, 0, 1}, {"\n" + most, "j>>k>>", "\n" + most, 0, 1},
		{full, "dd", "", 0, 0}, {full, "x", most, 0, 0}, {full, "ccx\x1b", "x", 0, 0}, {full, "gUU", strings.ToUpper(full), 0, 0}, {full, "<<", full, 0, 0}, {full, "sy\x1b", "y" + most, 0, 0}, {full, "syz\x1b", "y" + most, 0, 0},
	})
	half, wide := strings.Repeat("x", api.MaxText/2), strings.Repeat("x", api.MaxText/2-1)
	checkEdits(t, "P12, commands without a verb", []edit{
		{full, "ylp", full, 0, 1}, {full, "9lylP", full, 9, 1}, {most, "ylp", full, 1, 0}, {most, "yl2p", most, 0, 1}, {most, "yl9P", most, 0, 1}, {most, "ylpp", full, 1, 1}, {full, "yyp", full, 0, 1}, {full, "5lyyP", full, 5, 1}, {full, "ddp", "", 0, 1}, {full, "ddP", "", 0, 1}, {full, "x2p", most, 0, 1}, {full, "xp", full, 1, 0},
		{half, "yyp", half, 0, 1}, {half, "yyP", half, 0, 1}, {wide, "yyp", wide + "\n" + wide, 500, 0}, {wide, "yyP", wide + "\n" + wide, 0, 0}, {wide, "yy2p", wide, 0, 1}, {half, "y$P", full, 499, 0}, {half, "y$p", full, 500, 0}, {half, "y$2p", half, 0, 1}, {half + "\n", "ddp", "\n" + half, 1, 0}, {most, "\"ayy\"a99p", most, 0, 1},
		{full, "99rx", full, 98, 0}, {full, "~", "X" + most, 1, 0}, {most[1:] + "\nx", "J", most[1:] + " x", 998, 0}, {strings.Repeat("\n", api.MaxText), "99J", strings.Repeat("\n", api.MaxText-98), 0, 0},
		{full, "xu", full, 999, 0}, {full, "xxuu", full, 999, 0}, {full, "xu\x12", most, 998, 0}, {full, "ylpu", full, 0, 2},
		{most, "ylp.", full, 1, 1}, {most, "ox\x1bk.", most + "\n", 0, 1}, {most[2:], "oxy\x1bk.", most[2:] + "\nxy", 1, 1}, {full, "xiyz\x1b.", "y" + most, 0, 0}, {most[1:], "ix\x1b...", full, 0, 0}, {deep, ">>.", "  " + deep, 4, 1}, {"", "i" + half + "x\x1b..", full, 997, 0},
	})
	for _, keys := range []string{"v>", "V>", "vl2>"} {
		e := open(t, full)
		if fails := e.Type(keys); fails != 1 || e.State().Text != full || e.State().Mode == api.Normal {
			t.Errorf("P12: 1000 bytes, typed %q: %d failed, mode %d", keys, fails, e.State().Mode)
		}
	}
}

// TestShorts: each short key is the same as its keys, with its number and register, but for those of an empty line.
func TestShorts(t *testing.T) {
	for short, keys := range map[string]string{"x": "dl", "X": "dh", "D": "d$", "C": "c$", "s": "cl", "S": "cc", "Y": "yy"} {
		for _, text := range []string{"foo bar\n  baz\n\nqux x", "a", "  ", "a\nb", " a \n\tb\nc"} {
			for place := range len(text) {
				if text[place] == '\n' {
					continue
				}
				row := strings.Count(text[:place], "\n")
				to := strings.Repeat("j", row) + strings.Repeat("l", place-strings.LastIndex(text[:place], "\n")-1)
				for _, ahead := range []string{"", "2", "3", "99", "\"a", "\"a2"} {
					one, other := open(t, text), open(t, text)
					one.Type("gg0" + to)
					other.Type("gg0" + to)
					fails, wants := one.Type(ahead+short), other.Type(ahead+keys)
					same := one.State() == other.State() && fails == wants
					for _, name := range []byte("\"ab") {
						text, lines := one.Register(name)
						want, is := other.Register(name)
						same = same && text == want && lines == is
					}
					if !same {
						t.Errorf("P9: %q at %d: %s: %+v, %d failed; %s: %+v, %d failed", text, place, ahead+short, one.State(), fails, ahead+keys, other.State(), wants)
					}
				}
			}
		}
	}
	checkEdits(t, "P9, in an empty line", []edit{
		{"", "x", "", 0, 1}, {"", "9x", "", 0, 1}, {"", "X", "", 0, 1}, {"", "D", "", 0, 1}, {"", "2D", "", 0, 1}, {"\nab", "x", "\nab", 0, 1}, {"\nab", "D", "\nab", 0, 1}, {"\nab", "2D", "\nab", 0, 1}, {"", "S\x1b", "", 0, 0}, {"", "Y", "", 0, 0}, {"\nab", "sx\x1b", "x\nab", 0, 0}, {"\nab", "2Cx\x1b", "x\nab", 0, 0},
	})
}

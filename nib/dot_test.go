package nib

import (
	"strings"
	"testing"

	"nib/api"
)

func TestDot(t *testing.T) {
	checkEdits(t, "P9, .", []edit{
		{"a b c d", "dw.", "c d", 0, 0}, {"a b c d", "dw..", "d", 0, 0}, {"a b c d", "2dw.", "", 0, 0}, {"a b c d", "d2w.", "", 0, 0}, {"abcdef", "3x.", "", 0, 0}, {"abcdef", "$X.", "abcf", 3, 0}, {"ab\ncd", "D.", "\ncd", 0, 1}, {"ab\ncd", "Dj.", "\n", 1, 0}, {"a\nb\nc", "dd.", "c", 0, 0}, {"a", ">>.", "    a", 4, 0}, {"    a", "<<.", "a", 0, 0}, {"AB CD", "guww.", "ab cd", 3, 0}, {"ab cd", "gUiww.", "AB CD", 3, 0}, {"a b", "ylp.", "aaa b", 2, 0}, {"a b", "yl2P.", "aaaaa b", 2, 0}, {"a\nb", "yyp.", "a\na\na\nb", 4, 0}, {"abc", "rxl.", "xxc", 1, 0}, {"abcd", "2rx$.", "xxcd", 3, 1}, {"abcd", "~.", "ABcd", 2, 0}, {"abcd", "2~.", "ABCD", 3, 0}, {"a\nb\nc\nd", "J.", "a b c\nd", 3, 0}, {"a\nb\nc\nd", "3J.", "a b c d", 5, 0},
		{"a.b.c.d", "df..", "c.d", 0, 0}, {"a.b.c.d", "df.f.;.", "b.c.d", 3, 1}, {"a.b.c.d", "f.d;.", "ad", 1, 0}, {"a(b)(c)", "ldi(3l.", "a()()", 4, 0}, {"x", "r..", ".", 0, 0},
	})
	checkEdits(t, "P9, . of an Insert", []edit{
		{"ab", "ix\x1b.", "xxab", 0, 0}, {"ab", "ixy\x1b.", "xxyyab", 2, 0}, {"ab", "ax\x1b.", "axxb", 2, 0}, {"a\nb", "Ax\x1bj.", "ax\nbx", 4, 0}, {"  a\n  b", "$Ix\x1bj.", "  xa\n  xb", 7, 0}, {"a", "ob\x1b.", "a\nb\nb", 4, 0}, {"a", "Ob\x1b.", "b\nb\na", 0, 0}, {"a b c", "cwx\x1bw.", "x x c", 2, 0}, {"a b c", "c2wx\x1b.", "x", 0, 0}, {"a b c", "sxy\x1bw.", "xy xy c", 4, 0}, {"a\nb", "Sx\x1bj.", "x\nx", 2, 0}, {"ab\ncd", "lCx\x1bj.", "ax\ncx", 4, 0}, {"ab", "A\x08\x1b.", "", 0, 0}, {" a", "A\nb\x1b.", " a\n b\n b", 7, 0}, {"ab", "i\x1b.", "ab", 0, 0}, {"ab", "iu.\x1b.", "uu..ab", 2, 0}, {"ab", "3ix\x1b.", "xxab", 0, 0}, {"ab", "i\x00x\x05\x1b.", "xxab", 0, 0}, {"\n\n", "sx\x1bj.", "x\nx\n", 2, 0}, {"\nab", "sx\x1bj.", "x\nxb", 2, 0}, {"a\nb", "ox\ny\x1b.", "a\nx\ny\nx\ny\nb", 8, 0},
	})
	checkEdits(t, "P9, . without a doing", []edit{
		{"abc", ".", "abc", 0, 1}, {"abc", "3.", "abc", 0, 1}, {"abc", "\"a.", "abc", 0, 1}, {"abc", "l.", "abc", 1, 1}, {"abc", "yl.", "abc", 0, 1}, {"abc", "Y.", "abc", 0, 1}, {"abc", "vd.", "bc", 0, 1}, {"abc", "vcx\x1b.", "xbc", 0, 1}, {"abc", "Vd.", "", 0, 1}, {"abc", "dfq.", "abc", 0, 2}, {"abc", "q.", "abc", 0, 2}, {"abc", "u.", "abc", 0, 2}, {"abc", "..", "abc", 0, 2}, {"abc", "d.", "abc", 0, 1}, {"abc", "v.\x1b", "abc", 0, 1}, {"abc", "r\x1b.", "abc", 0, 1}, {"abc", "p.", "abc", 0, 2}, {"abc", "\x12.", "abc", 0, 2},
	})
}

// TestDotKeepsDoing: what comes between a doing and its dot, and is none.
func TestDotKeepsDoing(t *testing.T) {
	for _, between := range []string{"", "l0", "yl", "Y", "\"ayl", "u\x12", "vd", "vcq\x1b", "Vy", "vlU", "V>", "dfq", "9rx", "q", "2q", "dq", "\"A", "\"b\"", "v\x1b", "r\x1b", "d\x1b", "u", "cfq", "\"b9\x1b", "3\x1b", "fc", "r\n", "ci{"} {
		one, other := open(t, "abcdef ghi"), open(t, "abcdef ghi")
		one.Type("2x" + between)
		other.Type("2x" + between)
		fails, wants := one.Type("."), other.Type("2x")
		if fails != wants || one.State() != other.State() {
			t.Errorf("P9: 2x, %q and a dot: %+v, %d failed, want %+v, %d failed", between, one.State(), fails, other.State(), wants)
		}
	}
}

func TestDotFails(t *testing.T) {
	checkEdits(t, "P9, . that fails", []edit{
		{"a.b", "df..", "b", 0, 1}, {"a.b", "df...", "b", 0, 2}, {"ab", "2x.", "", 0, 1}, {"a\nb", "J.", "a b", 1, 1}, {"abc", "2rx$.", "xxc", 2, 1}, {"a\nb", "dj.", "", 0, 1}, {"ab", "xx.", "", 0, 1}, {"ab", "~$x.x.", "", 0, 2},
		{"a.b", "ct.xyz\x1b$.", "xyz.b", 4, 1},      // nothing of xyz is typed
		{"a.b", "ct.dd\x1b$.", "dd.b", 3, 1},        // nor done
		{"(a)b", "ci(dd\x1b$.l", "(dd)b", 4, 2},     // likewise
		{"a.b", "cf.x\x1b.", "xb", 0, 1},            // and the mode is Normal
		{"a.b.c", "df.$.0.", "c", 0, 1},             // the doing is still the last one
		{"a.b", "\"adf.$.p", "ba.", 2, 1},           // no register is written
		{"a.b", "df.$.u", "a.b", 0, 1},              // no change is made
		{"a.b", "df.u$.\x12", "b", 0, 1},            // and none that was undone forgotten
		{"a b", "cwx\x1b0yl$d0.u", "x b", 0, 1},     // a doing behind it counts
		{"ab", "ix\x1bd9j2.", "xxab", 0, 1},         // a doing that failed is none
		{"a\nb\nc", "dj2dj.", "c", 0, 2},            // likewise
		{"abab", "dfb3dfb.", "", 0, 1},              // likewise
		{"ab", "ylp\"zp.", "aaab", 2, 1},            // likewise
		{"ab", "ix\x1b\"a\"2d3\x1b.", "xxab", 0, 1}, // and what was forgotten, too
	})
}

// TestDotAhead: a number or a register ahead of . does not count; those of the doing do.
func TestDotAhead(t *testing.T) {
	checkEdits(t, "P9, a number ahead of .", []edit{
		{"abcdefgh", "x3.", "cdefgh", 0, 0}, {"abcdefgh", "2x3.", "efgh", 0, 0}, {"abcdefgh", "2x99.", "efgh", 0, 0}, {"abcdefgh", "2x\"a3.", "efgh", 0, 0}, {"abcdefgh", "2x3.l", "efgh", 1, 0}, {"abcdefgh", "2x3.x", "fgh", 0, 0}, {"a b c d e f", "d2w3.", "e f", 0, 0}, {"ab", "ix\x1b3.", "xxab", 0, 0}, {"ab", "ylp5.", "aaab", 2, 0}, {"a\nb\nc\nd", "J9.", "a b c\nd", 3, 0},
	})
	for _, c := range []struct {
		keys string
		want map[byte]kept
	}{
		{"\"adw.", map[byte]kept{'a': {"b ", false}, '"': {"b ", false}}},
		{"\"adw\"b.", map[byte]kept{'a': {"b ", false}, '"': {"b ", false}}},
		{"\"adw\"b2.", map[byte]kept{'a': {"b ", false}, '"': {"b ", false}}},
		{"dw\"b.", map[byte]kept{'"': {"b ", false}}},
		{"\"acwx\x1bw.", map[byte]kept{'a': {"b", false}, '"': {"b", false}}},
		{"\"ayw\"bywdw\"a.", map[byte]kept{'a': {"a ", false}, 'b': {"a ", false}, '"': {"b ", false}}},
		{"\"a2x.", map[byte]kept{'a': {"b ", false}, '"': {"b ", false}}},
	} {
		e := open(t, "a b c d")
		fails := e.Type(c.keys)
		got := registersOf(e)
		same := fails == 0 && len(got) == len(c.want)
		for name, want := range c.want {
			same = same && got[name] == want
		}
		if !same {
			t.Errorf("P9: typed %q: %d failed, the registers have %+v, want %+v", c.keys, fails, got, c.want)
		}
	}
	checkEdits(t, "P9, a register of the doing", []edit{
		{"ab cd", "\"aylw\"ayl0\"ap.", "accb cd", 2, 0}, {"ab cd", "\"ayl\"bylw\"apyl.", "ab caad", 5, 0}, {"ab cd", "\"aylwyl\"ap\"\".", "ab caad", 5, 0},
	})
}

// TestDotIsOneCommand: a long Insert done again is one change, and its keys in the bound of the text do nothing.
func TestDotIsOneCommand(t *testing.T) {
	long := strings.Repeat("x", 400)
	e := open(t, "")
	e.Type("i" + long + "\x1b.")
	if fails := e.Type("."); fails != 0 || e.State() != (api.State{Text: strings.Repeat("x", api.MaxText), At: 997}) {
		t.Errorf("P12: three times 400 bytes: %d failed, at %d, %s", fails, e.State().At, brief(e.State().Text))
	}
	for i, want := range []int{800, 400, 0} {
		if fails := e.Type("u"); fails != 0 || len(e.State().Text) != want {
			t.Errorf("P9: u %d: %d failed, %s", i, fails, brief(e.State().Text))
		}
	}
}

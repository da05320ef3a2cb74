package nib

import (
	"strconv"
	"strings"
	"testing"

	"nib/api"
)

// edit: a text, keys; the text then, where the cursor is, and how many commands failed.
type edit struct {
	text, keys string
	want       string
	at, fails  int
}

// checkEdits wants Normal and nothing begun behind each row.
func checkEdits(t *testing.T, what string, rows []edit) {
	t.Helper()
	for _, r := range rows {
		e := open(t, r.text)
		fails := e.Type(r.keys)
		if s := e.State(); fails != r.fails || s != (api.State{Text: r.want, At: r.at}) {
			t.Errorf("%s: %s, typed %q: %s, at %d, mode %d, %d failed, want %s, at %d, %d failed", what, brief(r.text), r.keys, brief(s.Text), s.At, s.Mode, fails, brief(r.want), r.at, r.fails)
		}
	}
}

// brief is a text that can be read in a message.
func brief(text string) string {
	if len(text) < 80 {
		return strconv.Quote(text)
	}
	return strconv.Quote(text[:20]) + " .. " + strconv.Quote(text[len(text)-20:]) + " (" + strconv.Itoa(len(text)) + " bytes)"
}

func TestDelete(t *testing.T) {
	checkEdits(t, "P7, d", []edit{
		{"foo bar", "dw", "bar", 0, 0}, {"foo bar", "wdw", "foo ", 3, 0}, {"foo bar", "d9w", "", 0, 0}, {"foo bar", "lde", "f bar", 1, 0}, {"foo bar", "$db", "foo r", 4, 0}, {"foo bar", "$dB", "foo r", 4, 0},
		{"foo bar", "dl", "oo bar", 0, 0}, {"foo bar", "$dl", "foo ba", 5, 0}, {"foo bar", "$d9l", "foo ba", 5, 0}, {"foo bar", "$2dh", "foo r", 4, 0}, {"foo bar", "wd^", "bar", 0, 0}, {"  foo", "0d^", "foo", 0, 0},
		{"a b a", "dfa", "", 0, 0}, {"a b a", "dta", "a", 0, 0}, {"a b a", "$dFa", "a", 0, 0}, {"a b a", "$dTa", "aa", 1, 0}, {"xaxa", "dta", "axa", 0, 0}, {"xaxa", "fad;", "x", 0, 0}, {"xaxa", "$FxFxd,", "a", 0, 0}, {"xaxa", "$Fxd,", "xaxa", 2, 1},
		{"a(b)c", "d%", "c", 0, 0}, {"a(b)c", "3ld%", "ac", 1, 0}, {"{\na\n}", "d%", "", 0, 0}, {"x\ny\n\nz", "d}", "\nz", 0, 0}, {"x\ny\n\nz", "Gd{", "x\ny\nz", 4, 0}, {"x y", "ld}", "x", 0, 0}, {"x\ny\n\nz", "Gd9{", "z", 0, 0},
		{"ab\ncd", "d2$", "", 0, 0}, {"ab\n\ncd", "ld2$", "a\ncd", 0, 0}, {"ab\ncd", "ld3$", "ab\ncd", 1, 1}, {"\nab", "2d$", "", 0, 0},
		{"ab\ncd", "$dw", "a\ncd", 0, 0}, {"ab\n\ncd", "jdw", "ab\ncd", 3, 0}, {"ab\n  ", "$dw", "a\n  ", 0, 0}, {"a\n\n\nb", "jd2w", "a\nb", 2, 0}, {"ab\ncd ef", "d2w", "ef", 0, 0},
	})
	checkEdits(t, "P7, d that takes nothing or goes no way", []edit{
		{"foo", "d0", "foo", 0, 1}, {"foo", "d^", "foo", 0, 1}, {"foo", "dh", "foo", 0, 1}, {"foo", "db", "foo", 0, 1}, {"xaxa", "lldTa", "xaxa", 2, 1}, {"", "d$", "", 0, 1}, {"", "dw", "", 0, 1}, {"", "dl", "", 0, 1}, {"\na", "d$", "\na", 0, 1},
		{"foo", "dj", "foo", 0, 1}, {"foo", "dk", "foo", 0, 1}, {"foo", "d%", "foo", 0, 1}, {"foo", "d}d}", "", 0, 1}, {"foo", "dfx", "foo", 0, 1}, {"foo", "d;", "foo", 0, 1}, {"foo", "lld0", "o", 0, 0},
	})
}

func TestDeleteLines(t *testing.T) {
	checkEdits(t, "P7, d of lines", []edit{
		{"a\n b\nc", "dd", " b\nc", 1, 0}, {"a\n b\nc", "jdd", "a\nc", 2, 0}, {"a\n b\nc", "Gdd", "a\n b", 3, 0}, {"a\n b\nc", "2dd", "c", 0, 0}, {"a\n b\nc", "d2d", "c", 0, 0}, {"a\n b\nc", "d9d", "", 0, 0}, {"a\n b\nc", "j99dd", "a", 0, 0},
		{"a\nb\nc\nd\ne", "2d2d", "e", 0, 0}, {"a\nb\nc\nd\ne", "j2d2d", "a", 0, 0}, {"a\nb\nc\nd\ne", "2jd2k", "d\ne", 0, 0}, {"a\nb\nc\nd\ne", "jd2G", "a\nc\nd\ne", 2, 0}, {"a\nb\nc\nd\ne", "jd4G", "a\ne", 2, 0}, {"a\nb\nc\nd\ne", "3Gd2gg", "a\nd\ne", 2, 0}, {"a\nb\nc\nd\ne", "3Gdgg", "d\ne", 0, 0}, {"a\nb\nc\nd\ne", "3GdG", "a\nb", 2, 0}, {"a\nb\nc\nd\ne", "2dj", "d\ne", 0, 0},
		{"", "dd", "", 0, 0}, {"", "dG", "", 0, 0}, {"", "dgg", "", 0, 0}, {"\n", "dd", "", 0, 0}, {"\n", "jdd", "", 0, 0}, {"a\n", "dd", "", 0, 0}, {"a\n", "jdd", "a", 0, 0}, {"\n\n", "jdd", "\n", 1, 0}, {"a\n  \nb", "dd", "  \nb", 1, 0}, {"ab", "ldd", "", 0, 0}, {"a\n\nb", "jdd", "a\nb", 2, 0}, {"a\nb", "jdk", "", 0, 0},
		{"a\nb", "2dk", "a\nb", 0, 1}, {"a\nb", "dk", "a\nb", 0, 1}, {"a\nb", "d2j", "a\nb", 0, 1},
	})
}

func TestChange(t *testing.T) {
	checkEdits(t, "P7, c", []edit{
		{"foo bar", "cwx\x1b", "x bar", 0, 0}, {"foo bar", "2lcwx\x1b", "fox bar", 2, 0}, {"foo bar", "3lcwx\x1b", "fooxbar", 3, 0}, {"foo bar", "c2wx\x1b", "x", 0, 0}, {"foo bar", "2cwx\x1b", "x", 0, 0}, {"foo bar", "c9wx\x1b", "x", 0, 0}, {"a.b c", "cwx\x1b", "x.b c", 0, 0}, {"a.b c", "cWx\x1b", "x c", 0, 0}, {"a.b c", "c2Wx\x1b", "x", 0, 0}, {"a b c d e", "2c2wx\x1b", "x e", 0, 0},
		{"a\nb", "cwx\x1b", "x\nb", 0, 0}, {"a\nb", "c2wx\x1b", "x", 0, 0}, {"\nb", "cwx\x1b", "xb", 0, 0}, {"\n\nb", "cwx\x1b", "x\nb", 0, 0}, {"a ", "lcwx\x1b", "ax", 1, 0}, {"a \nb", "lcwx\x1b", "ax\nb", 1, 0},
		{"foo bar", "cex\x1b", "x bar", 0, 0}, {"foo bar", "llcex\x1b", "fox", 2, 0}, {"foo bar", "$cbx\x1b", "foo xr", 4, 0}, {"foo bar", "wc$x\x1b", "foo x", 4, 0}, {"foo bar", "$c0\x1b", "r", 0, 0}, {"foo", "clx\x1b", "xoo", 0, 0}, {"foo", "$chx\x1b", "fxo", 1, 0}, {"foo", "$clx\x1b", "fox", 2, 0}, {"a\nb\n\nc", "c}x\x1b", "x\nc", 0, 0},
		{"a\n b\nc", "ccx\x1b", "x\n b\nc", 0, 0}, {"a\n b\nc", "jccx\x1b", "a\nx\nc", 2, 0}, {"a\n b\nc", "Gccx\x1b", "a\n b\nx", 5, 0}, {"a\n b\nc", "j2ccx\x1b", "a\nx", 2, 0}, {"a\n b\nc", "9ccx\x1b", "x", 0, 0}, {"a\n b\nc", "cjx\x1b", "x\nc", 0, 0}, {"a\n b\nc", "Gckx\x1b", "a\nx", 2, 0}, {"a\n b\nc", "cGx\x1b", "x", 0, 0}, {"", "ccx\x1b", "x", 0, 0}, {"\n", "jccx\x1b", "\nx", 1, 0},
	})
	checkEdits(t, "P7, c with a nothing", []edit{
		{"foo", "c0x\x1b", "xfoo", 0, 0}, {"foo", "c^x\x1b", "xfoo", 0, 0}, {"xaxa", "llcTax\x1b", "xaxxa", 2, 0}, {"", "c$x\x1b", "x", 0, 0}, {"a\n\nb", "jc$x\x1b", "a\nx\nb", 2, 0}, {"a()", "lci(x\x1b", "a(x)", 2, 0}, {"a\"\"", "ci\"x\x1b", "a\"x\"", 2, 0},
	})
	checkEdits(t, "P7, c that fails", []edit{
		{"", "cw", "", 0, 1}, {"a\n", "jcw", "a\n", 2, 1}, {"", "cl", "", 0, 1}, {"foo", "chl", "foo", 1, 1}, {"foo", "ckl", "foo", 1, 1}, {"foo", "cfxl", "foo", 1, 1}, {"foo", "ci(l", "foo", 1, 1}, {"", "ciw", "", 0, 1}, {"foo", "c2$l", "foo", 1, 1},
	})
}

func TestCopy(t *testing.T) {
	check(t, "P7, y", []row{
		{"foo bar", "yw", 0, 0}, {"foo bar", "wyb", 0, 0}, {"foo bar", "wy0", 0, 0}, {"foo bar", "wye", 4, 0}, {"foo bar", "$yFo", 2, 0}, {"foo bar", "wy$", 4, 0}, {"a(b)c", "3ly%", 1, 0}, {"foo bar", "wyiw", 4, 0}, {"foo bar", "$yiw", 4, 0}, {"foo bar", "$yaw", 3, 0}, {"a(b)c", "3lyi(", 2, 0},
		{"abc\n d\n\nefg", "yj", 0, 0}, {"abc\n d\n\nefg", "llyj", 2, 0}, {"abc\n d\n\nefg", "llyG", 2, 0}, {"abc\n d\n\nefg", "G$yk", 7, 0}, {"abc\n d\n\nefg", "G$y2k", 5, 0}, {"abc\n d\n\nefg", "G$ygg", 2, 0}, {"abc\n d\n\nefg", "jygg", 0, 0}, {"abc\n d\n\nefg", "G$yy", 10, 0}, {"abc\n d\n\nefg", "ll9yy", 2, 0}, {"abc\n d\n\nefg", "j$yip", 1, 0}, {"abc\n d\n\nefg", "G$yap", 7, 0},
		{"(\na)", "jyi(", 0, 0}, // it began at the line's end, where the cursor can't be
		{"foo", "y0", 0, 1}, {"foo", "yh", 0, 1}, {"foo", "yj", 0, 1}, {"", "y$", 0, 1}, {"", "yw", 0, 1}, {"", "yy", 0, 0}, {"()", "yi(", 0, 1},
	})
}

func TestShift(t *testing.T) {
	checkEdits(t, "P7, >", []edit{
		{"a\n b\n\n  \nc", ">>", "  a\n b\n\n  \nc", 2, 0}, {"a\n b\n\n  \nc", ">G", "  a\n   b\n\n    \n  c", 2, 0}, {"a\n b\n\n  \nc", "j>>", "a\n   b\n\n  \nc", 5, 0}, {"a\n b\n\n  \nc", "2j>>", "a\n b\n\n  \nc", 5, 0}, {"a\n b\n\n  \nc", "3j>>", "a\n b\n\n    \nc", 9, 0}, {"a\n b\n\n  \nc", "2>>", "  a\n   b\n\n  \nc", 2, 0}, {"a\n b\n\n  \nc", "G>k", "a\n b\n\n    \n  c", 9, 0},
		{"\ta", ">>", "  \ta", 3, 0}, {"a", ">l", "  a", 2, 0}, {"a b", "$>b", "  a b", 2, 0}, {"a b\nc", ">w", "  a b\nc", 2, 0}, {"ab\ncd", ">2w", "  ab\n  cd", 2, 0}, {"a\n\nb", ">}", "  a\n\nb", 2, 0}, {"a\nb\n\nc", "j>{", "  a\nb\n\nc", 2, 0}, {"(\n)", ">%", "  (\n  )", 2, 0}, {"(\na\n)", "j>i(", "  (\n  a\n)", 2, 0}, {"a\nb\n\nc", ">ip", "  a\n  b\n\nc", 2, 0}, {"a", ">>>>", "    a", 4, 0}, {"", ">>", "", 0, 0}, {"a b", "w>iw", "  a b", 2, 0},
		{"a", ">h", "a", 0, 1}, {"a", ">0", "a", 0, 1}, {"", ">$", "", 0, 1}, {"a", ">j", "a", 0, 1}, {"()", ">i(", "()", 0, 1}, {"a", "><", "a", 0, 1},
	})
	checkEdits(t, "P7, <", []edit{
		{"   a\n b\n\n\tc", "<<", " a\n b\n\n\tc", 1, 0}, {"   a\n b\n\n\tc", "<G", " a\nb\n\n\tc", 1, 0}, {"   a\n b\n\n\tc", "j<<", "   a\nb\n\n\tc", 5, 0}, {"   a\n b\n\n\tc", "G<<", "   a\n b\n\n\tc", 10, 0}, {"  a", "<<<<", "a", 0, 0}, {" \t a", "<<", "\t a", 2, 0}, {"   ", "<<", " ", 0, 0}, {" ", "<<", "", 0, 0}, {"", "<<", "", 0, 0}, {"a  ", "$<<", "a  ", 0, 0}, {"  a\n  b", "2<<", "a\nb", 0, 0},
		{"  a", "0<h", "  a", 0, 1}, {"  a", "<j", "  a", 0, 1}, {"  a", "<>", "  a", 0, 1},
	})
}

func TestCase(t *testing.T) {
	checkEdits(t, "P7, gu, gU", []edit{
		{"Foo BAR\nBaz", "guw", "foo BAR\nBaz", 0, 0}, {"Foo BAR\nBaz", "gu2w", "foo bar\nBaz", 0, 0}, {"Foo BAR\nBaz", "2guw", "foo bar\nBaz", 0, 0}, {"Foo BAR\nBaz", "gUe", "FOO BAR\nBaz", 0, 0}, {"Foo BAR\nBaz", "wgub", "foo BAR\nBaz", 0, 0}, {"Foo BAR\nBaz", "$guiw", "Foo bar\nBaz", 4, 0}, {"Foo BAR\nBaz", "guu", "foo bar\nBaz", 0, 0}, {"Foo BAR\nBaz", "gUU", "FOO BAR\nBaz", 0, 0}, {"Foo BAR\nBaz", "w2guu", "foo bar\nbaz", 4, 0}, {"Foo BAR\nBaz", "wgu9u", "foo bar\nbaz", 4, 0}, {"Foo BAR\nBaz", "G$gugg", "foo bar\nbaz", 2, 0}, {"Foo BAR\nBaz", "gUG", "FOO BAR\nBAZ", 0, 0}, {"Foo BAR\nBaz", "G$gUk", "FOO BAR\nBAZ", 2, 0},
		{"a_9@[`{\xe0Z", "gUU", "A_9@[`{\xe0Z", 0, 0}, {"A_9@[`{\xc0z", "guu", "a_9@[`{\xc0z", 0, 0}, {"12", "guu", "12", 0, 0}, {"", "guu", "", 0, 0}, {"Ab", "gul", "ab", 0, 0}, {"AB", "lguh", "aB", 0, 0}, {"AB", "gufB", "ab", 0, 0}, {"(AB)", "gui(", "(ab)", 1, 0}, {"AB\n\nC", "guip", "ab\n\nC", 0, 0},
		{"A", "gu0", "A", 0, 1}, {"A", "guU", "A", 0, 1}, {"a", "gUu", "a", 0, 1}, {"A", "gugu", "A", 0, 1}, {"A", "guj", "A", 0, 1}, {"()", "gUi(", "()", 0, 1}, {"A", "gugg", "a", 0, 0},
	})
}

// TestNumbersOfVerbs: the number ahead of a verb and the one behind it are one number, their product.
func TestNumbersOfVerbs(t *testing.T) {
	words, lines := strings.Repeat("a ", 200), strings.Repeat("a\n", 200)
	for _, c := range []struct {
		text, keys string
		gone       int
	}{
		{words, "dw", 2}, {words, "3dw", 6}, {words, "d3w", 6}, {words, "3d3w", 18}, {words, "12d10w", 198}, {words, "99d99w", 198}, {words, "100dw", 198}, {words, "d100w", 198}, {words, "x", 1}, {words, "3x", 3}, {words, "100x", 99}, {words, "$3X", 3}, {words, "2d10l", 20},
		{lines, "dd", 2}, {lines, "3dd", 6}, {lines, "d3d", 6}, {lines, "3d3d", 18}, {lines, "99d99d", 198}, {lines, "dj", 4}, {lines, "2d2j", 10}, {lines, "3dG", 6}, {lines, "d3G", 6}, {lines, "2d3G", 12}, {lines, "2d3gg", 12}, {lines, "3D", 5},
		{words, "2diw", 1}, {words, "d2iw", 1}, {words, "9d9aw", 2}, {lines, "3dip", 400},
	} {
		e := open(t, c.text)
		if fails := e.Type(c.keys); fails != 0 || len(e.State().Text) != len(c.text)-c.gone {
			t.Errorf("numbers: typed %q: %d failed, %d bytes are gone, want %d", c.keys, fails, len(c.text)-len(e.State().Text), c.gone)
		}
	}
}

// TestExamples: what the document's examples type.
func TestExamples(t *testing.T) {
	e := open(t, "foo bar (baz)")
	for _, c := range []struct {
		keys  string
		want  api.State
		taken string
	}{
		{"wdw", api.State{Text: "foo (baz)", At: 4}, "bar "},
		{"di(", api.State{Text: "foo ()", At: 5}, "baz"},
		{"u", api.State{Text: "foo (baz)", At: 5}, "baz"},
		{"0cwno\x1b", api.State{Text: "no (baz)", At: 1}, "foo"},
		{"w.", api.State{Text: "no nobaz)", At: 4}, "("},
	} {
		if fails := e.Type(c.keys); fails != 0 || e.State() != c.want {
			t.Errorf("the examples: typed %q: %+v, %d failed, want %+v", c.keys, e.State(), fails, c.want)
		}
		if text, lines := e.Register('"'); text != c.taken || lines {
			t.Errorf("the examples: typed %q: the register has %q, %v, want %q", c.keys, text, lines, c.taken)
		}
	}
}

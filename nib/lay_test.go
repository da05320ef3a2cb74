package nib

import (
	"strings"
	"testing"

	"nib/api"
)

func TestLay(t *testing.T) {
	checkEdits(t, "P9, p", []edit{
		{"ab cd", "dwp", "cab d", 3, 0}, {"ab cd", "dw$p", "cdab ", 4, 0}, {"ab cd", "x2p", "baa cd", 2, 0}, {"ab cd", "x99p", "b" + strings.Repeat("a", 99) + " cd", 99, 0}, {"ab cd", "x100p", "b" + strings.Repeat("a", 99) + " cd", 99, 0}, {"ab cd", "dw2p", "cab ab d", 6, 0}, {"a", "xp", "a", 0, 0}, {"a", "x3p", "aaa", 2, 0}, {"a\n\nb", "xjp", "\na\nb", 1, 0}, {"a\n\nb", "xj2p", "\naa\nb", 2, 0}, {"ab", "ylpp", "aaab", 2, 0},
		{"ab\ncd", "y2$p", "aab\ncdb\ncd", 5, 0},       // bytes over lines, which are no lines
		{"a\n\nb", "jvy0p", "a\n\n\nb", 2, 0},          // a byte 10 alone, in an empty line
		{"ab\n\nc", "jvykp", "a\nb\n\nc", 0, 0},        // its place is a line's end
		{"ab\n\nc", "vjyGp", "ab\n\ncab\n\n", 8, 0},    // the last byte ends an empty line
		{"ab\n\nc", "lvjyGp", "ab\n\ncb\n\n", 7, 0},    // likewise
		{"ab\n\nc", "lvjdp", "acb\n\n", 4, 0},          // at the text's last line
		{"ab cd", "\"ayw\"byew\"ap", "ab cab d", 6, 0}, // from the named one
		{"ab cd", "\"ayw\"byew\"bp", "ab cabd", 5, 0},
		{"ab cd", "\"ayw\"byewp", "ab cabd", 5, 0},
		{"ab cd", "\"ayww\"a2p", "ab cab ab d", 9, 0},
		{"ab cd", "\"ayw\"\"p", "aab b cd", 3, 0},
	})
	checkEdits(t, "P9, P", []edit{
		{"ab cd", "dwP", "ab cd", 2, 0}, {"ab cd", "dw$P", "cab d", 3, 0}, {"ab cd", "x2P", "aab cd", 1, 0}, {"a", "xP", "a", 0, 0}, {"a\n\nb", "xj2P", "\naa\nb", 2, 0}, {"ab", "ylPP", "aaab", 0, 0}, {"ab\ncd", "y2$P", "ab\ncdab\ncd", 4, 0}, {"ab cd", "\"ayw\"byew\"aP", "ab ab cd", 5, 0}, {"ab\n\nc", "jvykP", "\nab\n\nc", 0, 0}, {"ab\n\nc", "jvyk$P", "a\nb\n\nc", 0, 0}, {"ab\n\nc", "jvyP", "ab\n\n\nc", 3, 0},
	})
	checkEdits(t, "P9, an empty register", []edit{
		{"ab", "p", "ab", 0, 1}, {"ab", "P", "ab", 0, 1}, {"ab", "9p", "ab", 0, 1}, {"ab", "l\"ap", "ab", 1, 1}, {"ab", "\"zP", "ab", 0, 1}, {"ab", "\"\"p", "ab", 0, 1}, {"ab", "\"ayl\"bp", "ab", 0, 1}, {"ab", "c0\x1bp", "ab", 0, 1}, {"ab", "ylc0\x1bp", "ab", 0, 1}, {"ab", "\"ayl\"ac0\x1b\"ap", "ab", 0, 1}, {"", "p", "", 0, 1}, {"ab", "yyc0\x1bp", "ab", 0, 1},
	})
}

func TestLayLines(t *testing.T) {
	checkEdits(t, "P9, p of lines", []edit{
		{"a\n b\nc", "ddp", " b\na\nc", 3, 0}, {"a\n b\nc", "jyyp", "a\n b\n b\nc", 6, 0}, {"a\n b\nc", "jyyGp", "a\n b\nc\n b", 8, 0}, {"a\n b\nc", "jyy2p", "a\n b\n b\n b\nc", 6, 0}, {"a\n b\nc", "2yyp", "a\na\n b\n b\nc", 2, 0}, {"a\n b\nc", "2yy2p", "a\na\n b\na\n b\n b\nc", 2, 0}, {"a\n b\nc", "Gddp", "a\n b\nc", 5, 0}, {"a", "yyp", "a\na", 2, 0}, {"a", "yy3p", "a\na\na\na", 2, 0}, {"a", "ddp", "\na", 1, 0}, {"", "yyp", "\n", 1, 0}, {"", "yy2p", "\n\n", 1, 0}, {"a\n\nb", "jyyp", "a\n\n\nb", 3, 0}, {"a\n\nb", "jyyGp", "a\n\nb\n", 5, 0}, {"a\n  ", "jyyp", "a\n  \n  ", 6, 0}, {"ab\ncd", "lyyjp", "ab\ncd\nab", 6, 0}, {"a\nb", "Vyjp", "a\nb\na", 4, 0}, {"a\nb\n\nc", "yipGp", "a\nb\n\nc\na\nb", 7, 0}, {"\ta\nb", "yyp", "\ta\n\ta\nb", 4, 0}, {"a\nb", "\"ayyjyl\"ap", "a\nb\na", 4, 0}, {"a\nb", "SX\x1bp", "X\na\nb", 2, 0},
	})
	checkEdits(t, "P9, P of lines", []edit{
		{"a\n b\nc", "ddP", "a\n b\nc", 0, 0}, {"a\n b\nc", "jyyP", "a\n b\n b\nc", 3, 0}, {"a\n b\nc", "jyyGP", "a\n b\n b\nc", 6, 0}, {"a\n b\nc", "jyykP", " b\na\n b\nc", 1, 0}, {"a\n b\nc", "jyyk2P", " b\n b\na\n b\nc", 1, 0}, {"a\n b\nc", "GddP", "a\nc\n b", 2, 0}, {"a", "yyP", "a\na", 0, 0}, {"a", "ddP", "a\n", 0, 0}, {"", "yyP", "\n", 0, 0}, {"", "yy2P", "\n\n", 0, 0}, {"ab\ncd", "jlyyP", "ab\ncd\ncd", 3, 0}, {"a\n  ", "jyykP", "  \na\n  ", 1, 0}, {"a\nb", "\"zyyj\"zP", "a\na\nb", 2, 0},
	})
}

// TestLayKeepsRegisters: what is laid stays in its register, and goes into no other one.
func TestLayKeepsRegisters(t *testing.T) {
	for _, keys := range []string{"p", "P", "3p", "\"ap", "\"aP", "\"ap\"bp", "rx", "~", "J", "ppu", "p."} {
		e := open(t, "foo bar\nbaz")
		e.Type("\"ayyj\"byw")
		e.Type(keys)
		got := registersOf(e)
		if len(got) != 3 || got['a'] != (kept{"foo bar\n", true}) || got['b'] != (kept{"baz", false}) || got['"'] != (kept{"baz", false}) {
			t.Errorf("P9: typed %q: the registers have %+v", keys, got)
		}
	}
}

// TestNames: of all bytes behind " only names go on to p; Escape forgets, others fail.
func TestNames(t *testing.T) {
	for c := range 256 {
		name := string([]byte{byte(c)})
		e := open(t, "ab")
		e.Type("yl")
		if c == '"' || 'a' <= c && c <= 'z' {
			e.Type("\"" + name + "yl")
		}
		fails := e.Type("\"" + name)
		switch {
		case c == '"' || 'a' <= c && c <= 'z':
			if fails += e.Type("p"); fails != 0 || e.State() != (api.State{Text: "aab", At: 1}) {
				t.Errorf("P9: p of the register %d: %+v, %d failed", c, e.State(), fails)
			}
		case c == api.Escape && fails != 0, c != api.Escape && fails != 1, e.State() != api.State{Text: "ab"}:
			t.Errorf("P9: the byte %d behind \": %+v, %d failed", c, e.State(), fails)
		}
	}
}

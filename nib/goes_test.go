package nib

import (
	"strings"
	"testing"

	"nib/api"
)

const sample = "foo bar_9 (baz)\n\n  x.y  \nlast"

func TestInLine(t *testing.T) {
	check(t, "P6", []row{
		{sample, "l", 1, 0}, {sample, "3l", 3, 0}, {sample, "99l", 14, 0}, {sample, "$l", 14, 1}, {sample, "$3l", 14, 1},
		{sample, "h", 0, 1}, {sample, "3h", 0, 1}, {sample, "4l3h", 1, 0}, {sample, "4l9h", 0, 0}, {sample, "3Gh", 18, 0}, {sample, "3G9h", 17, 0}, {sample, "3G0h", 17, 1},
		{sample, "4l0", 0, 0}, {sample, "0", 0, 0}, {sample, "3G0", 17, 0}, {sample, "3G0^", 19, 0}, {sample, "3G$^", 19, 0}, {sample, "10l", 10, 0},
		{sample, "$", 14, 0}, {sample, "1$", 14, 0}, {sample, "2$", 16, 0}, {sample, "3$", 23, 0}, {sample, "4$", 28, 0}, {sample, "5$", 0, 1}, {sample, "99$", 0, 1},
		{"", "l", 0, 1}, {"", "h", 0, 1}, {"", "0", 0, 0}, {"", "^", 0, 0}, {"", "$", 0, 0}, {"", "2$", 0, 1},
		{"\n", "l", 0, 1}, {"\n", "jl", 1, 1}, {"\n", "jh", 1, 1}, {"\n", "$", 0, 0}, {"\n", "2$", 1, 0}, {"\n", "3$", 0, 1},
		{" \t ", "^", 2, 0}, {" \t ", "$", 2, 0}, {" \t ", "$0", 0, 0}, {"  a", "^", 2, 0}, {"\t\n", "^", 0, 0}, {"a", "l", 0, 1},
	})
}

func TestByLines(t *testing.T) {
	check(t, "P6", []row{
		{sample, "j", 16, 0}, {sample, "2j", 17, 0}, {sample, "4j", 0, 1}, {sample, "$2j", 23, 0}, {sample, "$3j", 28, 0}, {sample, "$jj", 17, 0},
		{sample, "k", 0, 1}, {sample, "G3lk", 20, 0}, {sample, "G3l2k", 16, 0}, {sample, "G3l3k", 3, 0}, {sample, "G4k", 25, 1},
		{sample, "G", 25, 0}, {sample, "1G", 0, 0}, {sample, "2G", 16, 0}, {sample, "3G", 19, 0}, {sample, "4G", 25, 0}, {sample, "5G", 25, 0},
		{sample, "Ggg", 0, 0}, {sample, "3gg", 19, 0}, {sample, "99gg", 25, 0}, {sample, "$gg", 0, 0},
		{"", "j", 0, 1}, {"", "k", 0, 1}, {"", "G", 0, 0}, {"", "gg", 0, 0}, {"", "9G", 0, 0},
		{"a\n", "j", 2, 0}, {"a\n", "2j", 0, 1}, {"a\n", "G", 2, 0}, {"a\n", "Gk", 0, 0}, {"a\nb", "G", 2, 0},
		{"a\n  ", "G", 3, 0}, {" a", "gg", 1, 0}, {"  ", "gg", 1, 0}, {"ab\ncd", "lG", 3, 0},
	})
}

func TestGreatNumbers(t *testing.T) {
	lines := strings.Repeat("\n", 200)
	long := strings.Repeat("x", api.MaxText)
	check(t, "Numbers", []row{
		{lines, "98j", 98, 0}, {lines, "99j", 99, 0}, {lines, "100j", 99, 0}, {lines, "150j", 99, 0}, {lines, "12345678901234567890123j", 99, 0},
		{lines, "99G", 98, 0}, {lines, "100G", 98, 0}, {lines, "100gg", 98, 0}, {lines, "100$", 98, 0}, {lines, "G100k", 101, 0},
		{long, "99l", 99, 0}, {long, "100l", 99, 0}, {long, "990l", 99, 0}, {long, "$100h", 900, 0}, {long, "100fx", 99, 0}, {long, "$100Fx", 900, 0},
		{long, "$", 999, 0}, {long, "$l", 999, 1}, {long, "w", 999, 0}, {long, "$b", 0, 0}, {long, "e", 999, 0}, {long, "j", 0, 1},
		{strings.Repeat("a ", 200), "100w", 198, 0}, {strings.Repeat("a ", 200), "100e", 198, 0}, {strings.Repeat("a ", 200), "$100b", 202, 0},
		{strings.Repeat("a\n\n", 200), "100}", 2 + 98*3, 0},
	})
}

func TestByWords(t *testing.T) {
	check(t, "P6", []row{
		{sample, "w", 4, 0}, {sample, "2w", 10, 0}, {sample, "5w", 16, 0}, {sample, "6w", 19, 0}, {sample, "10w", 28, 0}, {sample, "99w", 28, 0}, {sample, "G$w", 28, 1},
		{sample, "W", 4, 0}, {sample, "3W", 16, 0}, {sample, "4W", 19, 0}, {sample, "5W", 25, 0}, {sample, "99W", 28, 0},
		{sample, "b", 0, 1}, {sample, "lb", 0, 0}, {sample, "wb", 0, 0}, {sample, "G4b", 16, 0}, {sample, "G99b", 0, 0}, {sample, "GB", 19, 0}, {sample, "G2B", 16, 0}, {sample, "G3B", 10, 0},
		{sample, "e", 2, 0}, {sample, "3e", 10, 0}, {sample, "6e", 19, 0}, {sample, "99e", 28, 0}, {sample, "G$e", 28, 1}, {sample, "G$3e", 28, 1}, {sample, "Ge", 28, 0},
		{sample, "E", 2, 0}, {sample, "3E", 14, 0}, {sample, "4E", 21, 0}, {sample, "99E", 28, 0},
		{"", "w", 0, 1}, {"", "b", 0, 1}, {"", "e", 0, 1}, {"\n", "w", 1, 0}, {"\n", "jw", 1, 1}, {"\n", "jb", 0, 0}, {"\n", "e", 0, 1},
		{"a\n", "w", 2, 0}, {"a\n", "jb", 0, 0}, {"a\n", "e", 0, 1}, {"a\nb", "w", 2, 0}, {"a\nb", "e", 2, 0}, {"a\n\n\nb", "2w", 3, 0}, {"a\n\n\nb", "e", 4, 0}, {"a\n\n\nb", "G2b", 2, 0},
		{"a\n  ", "w", 3, 0}, {"a\n \nb", "w", 4, 0}, {"a\n \nb", "Gb", 0, 0}, {"   ", "w", 2, 0}, {"   ", "$w", 2, 1}, {"   ", "$b", 0, 0}, {"   ", "e", 0, 1},
		{"a.b-_c", "w", 1, 0}, {"a.b-_c", "W", 5, 0}, {"a\xff\x80z.", "e", 3, 0}, {"a\tb", "w", 2, 0}, {"a\rb", "w", 1, 0}, {"a\x00b", "W", 2, 0},
	})
}

func TestFinds(t *testing.T) {
	check(t, "P6", []row{
		{sample, "fb", 4, 0}, {sample, "2fb", 11, 0}, {sample, "3fb", 0, 1}, {sample, "ff", 0, 1}, {sample, "fx", 0, 1},
		{sample, "tb", 3, 0}, {sample, "2tb", 10, 0}, {sample, "to", 0, 0}, {sample, "3tb", 0, 1},
		{sample, "$Fb", 11, 0}, {sample, "$2Fb", 4, 0}, {sample, "$3Fb", 14, 1}, {sample, "$Tb", 12, 0}, {sample, "$2Tb", 5, 0}, {sample, "$Tz", 14, 0},
		{sample, "fb;", 11, 0}, {sample, "fb;,", 4, 0}, {sample, "fb,;", 11, 1}, {sample, "$Fb;,", 11, 0}, {sample, "fo2;", 1, 1}, {sample, "fo;", 2, 0},
		{sample, "tb;", 10, 0}, {sample, "tb,", 3, 1}, {sample, "tb;,", 5, 0}, {sample, "$Tb;", 5, 0}, {sample, "$Tb;,", 10, 0},
		{"xaxaxa", "ta;", 2, 0}, {"xaxaxa", "ta2;", 4, 0}, {"xaxaxa", "ta3;", 0, 1}, {"xaxaxa", "$Tx2;", 1, 0}, {"xaxaxa", "fa2;", 5, 0}, {"xaxaxa", "2fa;", 5, 0},
		{sample, ";", 0, 1}, {sample, ",", 0, 1}, {sample, "fq;", 0, 2}, {sample, "fbfq;", 4, 2}, {sample, "wfq0fb;", 11, 1},
		{sample, "yfb;", 4, 0}, {sample, "dfq,", 0, 2}, {sample, "f;", 0, 1},
	})
	check(t, "P6, bytes to look for", []row{
		{"a\nb", "f\n", 0, 1}, {"a\nb", "t\n", 0, 1}, {"a\nb", "GF\n", 2, 1}, {"", "fx", 0, 1}, {"\n", "jF\n", 1, 1}, {"ab\nb", "2fb", 0, 1}, {"b\nab", "GlFb", 3, 1},
		{"a2b", "f2", 1, 0}, {"a0b", "f0", 1, 0}, {"a\"b", "f\"", 1, 0}, {"a\x00\xff", "f\x00", 1, 0}, {"a\x00\xff", "f\xff", 2, 0}, {"agg", "fg", 1, 0}, {"add", "td;", 1, 0},
	})
}

func TestParagraphs(t *testing.T) {
	check(t, "P6", []row{
		{sample, "}", 16, 0}, {sample, "2}", 28, 0}, {sample, "99}", 28, 0}, {sample, "}}}", 28, 1}, {sample, "G$}", 28, 1}, {sample, "{", 0, 1}, {sample, "w{", 0, 0}, {sample, "G{", 16, 0}, {sample, "G2{", 0, 0}, {sample, "G99{", 0, 0},
		{"", "}", 0, 1}, {"", "{", 0, 1}, {"\n", "}", 1, 0}, {"\n", "j}", 1, 1}, {"\n", "j{", 0, 0}, {"a\n", "}", 2, 0}, {"a\n", "2}", 2, 0}, {"a\n", "}{", 0, 0},
		{"\n\na\n\nb", "}", 4, 0}, {"\n\na\n\nb", "G{", 4, 0}, {"\n\na\n\nb", "G2{", 1, 0}, {"\n\na\n\nb", "G3{", 0, 0},
		{"a\n\n\nb", "}}", 4, 0}, {"a\n\n\nb", "}}}", 4, 1}, {"a\n\n\nbc", "}}", 5, 0}, {"a\n\n\nb", "G{", 3, 0},
	})
	check(t, "P6, lines of blanks are not empty", []row{
		{"a\n  \nbc", "}", 6, 0}, {"a\n  \nb", "G{", 0, 0}, {"a\n\n  \n\nb", "2}", 6, 0},
	})
}

func TestBrackets(t *testing.T) {
	check(t, "P6", []row{
		{sample, "%", 14, 0}, {sample, "%%", 10, 0}, {sample, "12l%", 10, 0}, {sample, "G%", 25, 1}, {sample, "7%", 14, 0}, {sample, "j%", 16, 1},
		{"a(b[c)d]e", "%", 5, 0}, {"a(b[c)d]e", "2l%", 7, 0}, {"a(b[c)d]e", "6l%", 3, 0}, {"a(b[c)d]e", "$%", 8, 1},
		{"{\n(\n}\n)", "%", 4, 0}, {"{\n(\n}\n)", "2G%", 6, 0}, {"{\n(\n}\n)", "G%", 2, 0}, {"{\n(\n}\n)", "3G%", 0, 0},
		{"((a)", "%", 0, 1}, {"((a)", "l%", 3, 0}, {"(a))", "$%", 3, 1}, {"(a))", "2l%", 0, 0}, {"(()())", "%", 5, 0}, {"(()())", "$%", 0, 0},
		{"a\n()", "%", 0, 1}, {"", "%", 0, 1}, {"<>", "%", 0, 1}, {"([)]", "l%", 3, 0}, {"((()[", "l%", 1, 1}, {"(]", "%", 0, 1},
	})
}

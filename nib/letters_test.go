package nib

import (
	"strings"
	"testing"

	"nib/api"
)

func TestReplace(t *testing.T) {
	checkEdits(t, "P9, r", []edit{
		{"abc", "rx", "xbc", 0, 0}, {"abc", "lrx", "axc", 1, 0}, {"abc", "$rx", "abx", 2, 0}, {"abc", "2rx", "xxc", 1, 0}, {"abc", "3rx", "xxx", 2, 0}, {"abc", "l2rx", "axx", 2, 0}, {"abc", "\"a2rx", "xxc", 1, 0}, {"ab\ncd", "jrx", "ab\nxd", 3, 0}, {"abc", "ra", "abc", 0, 0}, {"abc", "r3", "3bc", 0, 0}, {"abc", "r\"", "\"bc", 0, 0}, {"abc", "rr", "rbc", 0, 0}, {"abc", "r\t", "\tbc", 0, 0}, {"abc", "r lr ", "  c", 1, 0}, {"abc", "r\xff", "\xffbc", 0, 0},
		{"abc", "4rx", "abc", 0, 1}, {"abc", "l3rx", "abc", 1, 1}, {"ab\ncd", "3rx", "ab\ncd", 0, 1}, {"", "rx", "", 0, 1}, {"\nab", "rx", "\nab", 0, 1}, {"\nab", "2rx", "\nab", 0, 1}, {"a\n", "jrx", "a\n", 2, 1}, {"abc", "99rx", "abc", 0, 1}, {strings.Repeat("a", 99), "100rx", strings.Repeat("x", 99), 98, 0},
		{"abc", "2r\x1bl", "abc", 1, 0}, {"abc", "2r\nl", "abc", 1, 1}, {"abc", "9r\x1b", "abc", 0, 0}, {"", "r\x1b", "", 0, 0}, // the number is forgotten
	})
	for c := range 256 {
		key := string([]byte{byte(c)})
		want, fails := "a"+key+"c", 0
		switch {
		case c == api.Escape:
			want = "abc"
		case c < 32 && c != 9:
			want, fails = "abc", 1
		}
		checkEdits(t, "P9, each byte behind r", []edit{{"abc", "lr" + key, want, 1, fails}})
	}
}

func TestTurnCase(t *testing.T) {
	checkEdits(t, "P9, ~", []edit{
		{"aBc", "~", "ABc", 1, 0}, {"aBc", "~~~", "AbC", 2, 0}, {"aBc", "~~~~", "Abc", 2, 0}, {"aBc", "2~", "Abc", 2, 0}, {"aBc", "3~", "AbC", 2, 0}, {"aBc", "99~", "AbC", 2, 0}, {"aBc", "$~", "aBC", 2, 0}, {"aBc", "l9~", "abC", 2, 0}, {"a\nb", "9~", "A\nb", 0, 0}, {"a\nb", "j~", "a\nB", 2, 0}, {"1 b", "~", "1 b", 1, 0}, {"@[`{\xe0\xc0zZ", "8~", "@[`{\xe0\xc0Zz", 7, 0}, {"aBc", "\"a2~", "Abc", 2, 0},
		{"", "~", "", 0, 1}, {"", "3~", "", 0, 1}, {"a\n\nb", "j~", "a\n\nb", 2, 1}, {"a\n", "j9~", "a\n", 2, 1},
	})
}

func TestJoinLines(t *testing.T) {
	checkEdits(t, "P9, J", []edit{
		{"a\nb\nc\nd", "J", "a b\nc\nd", 1, 0}, {"a\nb\nc\nd", "1J", "a b\nc\nd", 1, 0}, {"a\nb\nc\nd", "2J", "a b\nc\nd", 1, 0}, {"a\nb\nc\nd", "3J", "a b c\nd", 3, 0}, {"a\nb\nc\nd", "99J", "a b c d", 5, 0}, {"a\nb\nc\nd", "jJ", "a\nb c\nd", 3, 0}, {"a\nb\nc\nd", "2j9J", "a\nb\nc d", 5, 0}, {"a\nb\nc\nd", "JJJ", "a b c d", 5, 0}, {"ab\ncd", "lJ", "ab cd", 2, 0}, {"ab\ncd", "\"a2J", "ab cd", 2, 0},
		{"a\n  b", "J", "a b", 1, 0}, {"a\n\t b ", "J", "a b ", 1, 0}, {"a \n b", "J", "a  b", 2, 0}, {"  a\n  b", "J", "  a b", 3, 0}, {" \n b", "J", "  b", 1, 0},
		{"a\n\nb", "J", "a\nb", 0, 0}, {"a\n \nb", "J", "a\nb", 0, 0}, {"a\n\nb", "3J", "a b", 1, 0}, {"a\n\n\nb", "4J", "a b", 1, 0}, {"a\nb\n", "3J", "a b", 2, 0}, {"a\n", "J", "a", 0, 0}, {"a\n\t", "J", "a", 0, 0},
		{"\nb", "J", "b", 0, 0}, {"\n b", "J", "b", 0, 0}, {"\n\n b", "3J", "b", 0, 0}, {"\n\n", "3J", "", 0, 0}, {"\n", "J", "", 0, 0}, {"\n ", "J", "", 0, 0}, {"\nb\nc", "3J", "b c", 1, 0}, {"\n\nb", "J", "\nb", 0, 0},
		{"a", "J", "a", 0, 1}, {"a", "9J", "a", 0, 1}, {"", "J", "", 0, 1}, {"a\nb", "jJ", "a\nb", 2, 1}, {"a\nb", "j3J", "a\nb", 2, 1}, {"a\n", "jJ", "a\n", 2, 1}, {"a\nb", "JJ", "a b", 1, 1},
	})
}

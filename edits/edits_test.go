package edits

import (
	"strings"
	"testing"

	"nib/text"
)

// made: what an edit answers.
type made struct {
	text text.Text
	at   int
	is   bool
}

func of(after text.Text, at int, is bool) made { return made{after, at, is} }

func TestReplaced(t *testing.T) {
	const some = "ab\n\ncd"
	for _, c := range []struct {
		at, count int
		want      made
	}{
		{0, 1, made{"xb\n\ncd", 0, true}}, {0, 2, made{"xx\n\ncd", 1, true}}, {1, 1, made{"ax\n\ncd", 1, true}}, {4, 2, made{"ab\n\nxx", 5, true}},
		{0, 3, made{}}, {1, 2, made{}}, {3, 1, made{}}, {5, 2, made{}}, {0, 99, made{}},
	} {
		if got := of(Spot{some, c.at, c.count}.Replaced('x')); got != c.want {
			t.Errorf("P9: %d r at %d: %+v, want %+v", c.count, c.at, got, c.want)
		}
	}
	for c := range 256 {
		if got := of(Spot{"abc", 1, 1}.Replaced(byte(c))); got != (made{text.Text([]byte{'a', byte(c), 'c'}), 1, true}) {
			t.Errorf("P9: r and the byte %d: %+v", c, got)
		}
	}
}

func TestTurned(t *testing.T) {
	const some = "aB_z\n\nZ"
	for _, c := range []struct {
		at, count int
		want      made
	}{
		{0, 1, made{"AB_z\n\nZ", 1, true}}, {0, 2, made{"Ab_z\n\nZ", 2, true}}, {2, 1, made{some, 3, true}}, {1, 3, made{"ab_Z\n\nZ", 4, true}}, {1, 99, made{"ab_Z\n\nZ", 4, true}}, {6, 2, made{"aB_z\n\nz", 7, true}},
		{5, 1, made{}}, {5, 2, made{}},
	} {
		if got := of(Spot{some, c.at, c.count}.Turned()); got != c.want {
			t.Errorf("P9: %d ~ at %d: %+v, want %+v", c.count, c.at, got, c.want)
		}
	}
}

func TestJoined(t *testing.T) {
	for _, c := range []struct {
		text      text.Text
		at, count int
		want      made
	}{
		{"a\nb", 0, 1, made{"a b", 1, true}}, {"a\nb", 0, 2, made{"a b", 1, true}}, {"a\nb\nc", 0, 3, made{"a b c", 3, true}}, {"a\nb\nc", 0, 99, made{"a b c", 3, true}}, {"a\nb\nc", 2, 1, made{"a\nb c", 3, true}},
		{"a\n \t b", 0, 1, made{"a b", 1, true}}, {"a  \n b", 0, 1, made{"a   b", 3, true}}, {"a\n", 0, 1, made{"a", 1, true}}, {"a\n  ", 0, 1, made{"a", 1, true}}, {"a\n\nb", 0, 1, made{"a\nb", 1, true}},
		{"\n b", 0, 1, made{"b", 0, true}}, {"\n\nb", 0, 3, made{"b", 0, true}}, {"a\n \nb", 0, 3, made{"a b", 1, true}}, {" \nb", 0, 1, made{"  b", 1, true}}, {"\n", 0, 1, made{"", 0, true}}, {"a\nb\n", 0, 3, made{"a b", 3, true}},
		{"", 0, 1, made{}}, {"a\nb", 2, 1, made{}}, {"a\nb", 2, 9, made{}}, {"a\n", 2, 2, made{}},
	} {
		if got := of(Spot{c.text, c.at, c.count}.Joined()); got != c.want {
			t.Errorf("P9: %d J of %q at %d: %+v, want %+v", c.count, c.text, c.at, got, c.want)
		}
	}
}

func TestLaid(t *testing.T) {
	const some = "ab\n\n cd"
	for _, c := range []struct {
		at, count     int
		what          string
		lines, behind bool
		want          made
	}{
		{0, 1, "xy", false, true, made{"axyb\n\n cd", 2, true}}, {0, 1, "xy", false, false, made{"xyab\n\n cd", 1, true}}, {1, 2, "xy", false, true, made{"abxyxy\n\n cd", 5, true}}, {3, 1, "xy", false, true, made{"ab\nxy\n cd", 4, true}}, {3, 2, "x", false, false, made{"ab\nxx\n cd", 4, true}}, {6, 1, "\n", false, true, made{some + "\n", 7, true}},
		{0, 1, " x\n", true, true, made{"ab\n x\n\n cd", 4, true}}, {1, 1, " x\n", true, false, made{" x\nab\n\n cd", 1, true}}, {3, 2, "x\n", true, true, made{"ab\n\nx\nx\n cd", 4, true}}, {3, 2, "x\n", true, false, made{"ab\nx\nx\n\n cd", 3, true}}, {5, 1, "x\n\n", true, true, made{some + "\nx\n", 8, true}}, {5, 1, "\n", true, true, made{some + "\n", 8, true}}, {5, 1, "  \n", true, false, made{"ab\n\n  \n cd", 5, true}},
		{0, 1, "", false, true, made{}}, {0, 9, "", false, false, made{}},
	} {
		if got := of(Spot{some, c.at, c.count}.Laid(c.what, c.lines, c.behind)); got != c.want {
			t.Errorf("P9: %q laid %d times at %d (lines: %v, behind: %v): %+v, want %+v", c.what, c.count, c.at, c.lines, c.behind, got, c.want)
		}
	}
	if got := of(Spot{"", 0, 1}.Laid("x\ny\n", true, true)); got != (made{"\nx\ny", 1, true}) {
		t.Errorf("P9: lines laid into an empty text: %+v", got)
	}
	if got, _, is := (Spot{"a", 0, 99}).Laid(strings.Repeat("x", 1001), false, true); !is || got.End() != 99*1001+1 {
		t.Errorf("P9: what is laid 99 times: %d bytes", got.End())
	}
}

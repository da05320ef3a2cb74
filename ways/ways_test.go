package ways

import (
	"strings"
	"testing"

	"nib/text"
)

const sample = "foo bar_9 (baz)\n\n  x.y  \nlast"

// TestVerb: what a verb would be given; without one the same keys are tested through the calls.
func TestVerb(t *testing.T) {
	for _, c := range []struct {
		text      text.Text
		at, count int
		key       byte
		want      Goal
		is        bool
	}{
		{sample, 14, 0, 'l', Goal{15, Out}, true},
		{sample, 13, 9, 'l', Goal{15, Out}, true},
		{sample, 16, 0, 'l', Goal{}, false},
		{sample, 3, 0, 'h', Goal{2, Out}, true},
		{sample, 0, 0, 'h', Goal{}, false},
		{sample, 3, 0, '$', Goal{14, In}, true},
		{sample, 3, 2, '$', Goal{16, Out}, true},
		{sample, 3, 0, 'j', Goal{16, Lines}, true},
		{sample, 3, 0, 'G', Goal{25, Lines}, true},
		{sample, 20, 0, 'g', Goal{0, Lines}, true},
		{sample, 4, 0, 'w', Goal{10, Out}, true},
		{sample, 14, 0, 'w', Goal{15, Out}, true},
		{sample, 16, 0, 'w', Goal{19, Out}, true},
		{sample, 11, 2, 'w', Goal{15, Out}, true},
		{sample, 11, 3, 'w', Goal{19, Out}, true},
		{sample, 25, 0, 'w', Goal{29, Out}, true},
		{sample, 25, 99, 'W', Goal{29, Out}, true},
		{sample, 29, 0, 'w', Goal{}, false},
		{"a\n  ", 0, 0, 'w', Goal{1, Out}, true},
		{"a\n", 2, 0, 'w', Goal{}, false},
		{"", 0, 0, 'w', Goal{}, false},
		{sample, 25, 0, '}', Goal{29, Out}, true},
		{"a\n", 2, 0, '}', Goal{}, false},
		{sample, 3, 0, '{', Goal{0, Out}, true},
		{sample, 8, 0, 'e', Goal{10, In}, true},
		{sample, 8, 0, 'b', Goal{4, Out}, true},
		{sample, 0, 0, '%', Goal{14, In}, true},
		{sample, 0, 0, 'q', Goal{}, false},
	} {
		got, is := Go(c.key, Start{Text: c.text, At: c.at, Count: c.count, Verb: true})
		if got != c.want || is != c.is {
			t.Errorf("P6: %q at %d, a verb and %d%c: %v, %v, want %v, %v", c.text, c.at, c.count, c.key, got, is, c.want, c.is)
		}
	}
}

func TestNoWay(t *testing.T) {
	for c := range 256 {
		if strings.IndexByte("hl0^$jkGgwWbBeE{}%", byte(c)) >= 0 {
			continue
		}
		if goal, is := Go(byte(c), Start{Text: sample, At: 4}); is || goal != (Goal{}) {
			t.Errorf("P6: the byte %d is no way, but leads to %v", c, goal)
		}
	}
}

func TestTurned(t *testing.T) {
	for _, pair := range []string{"fF", "Ff", "tT", "Tt"} {
		if got := (Find{pair[0], 'x'}).Turned(); got != (Find{pair[1], 'x'}) {
			t.Errorf("P6: %c turned: %v", pair[0], got)
		}
	}
	for _, none := range []Find{{}, Find{}.Turned()} {
		if goal, is := none.Again(Start{Text: "\x00\x00\x00", At: 1}); is || goal != (Goal{}) {
			t.Errorf("P6: ; without a find leads to %v", goal)
		}
	}
}

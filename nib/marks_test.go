package nib

import (
	"testing"

	"nib/api"
)

func visual(anchor, at int) api.State {
	return api.State{Text: sample, At: at, Anchor: anchor, Mode: api.Visual}
}

func lines(anchor, at int) api.State {
	return api.State{Text: sample, At: at, Anchor: anchor, Mode: api.Lines}
}

func normal(at int) api.State { return api.State{Text: sample, At: at} }

func TestMarks(t *testing.T) {
	for _, c := range []struct {
		keys  string
		want  api.State
		fails int
	}{
		{"v", visual(0, 0), 0}, {"V", lines(0, 0), 0}, {"wv", visual(4, 4), 0}, {"wV", lines(4, 4), 0}, {"3v", visual(0, 0), 0},
		{"vv", normal(0), 0}, {"VV", normal(0), 0}, {"wvwv", normal(10), 0}, {"wVwV", normal(10), 0},
		{"wvwV", lines(4, 10), 0}, {"wVwv", visual(4, 10), 0}, {"wvVvw", visual(4, 10), 0}, {"wvV\x1b", normal(4), 0}, {"wv\x1bwv", visual(10, 10), 0},
		{"wvo", visual(4, 4), 0}, {"wvwo", visual(10, 4), 0}, {"wvwoo", visual(4, 10), 0}, {"wvbo", visual(0, 4), 0}, {"wvwob", visual(10, 0), 0}, {"wVjo", lines(16, 4), 0}, {"wvw9o", visual(10, 4), 0},
		{"vh", visual(0, 0), 1}, {"v9j", visual(0, 0), 1}, {"Vk", lines(0, 0), 1}, {"wvq", visual(4, 4), 1}, {"wVwp", lines(4, 10), 1}, {"vgu", visual(0, 0), 1}, {"vgU", visual(0, 0), 1}, {"v2\"", visual(0, 0), 1}, {"wv\"a\"", visual(4, 4), 1}, {"wV\"a\"", lines(4, 4), 1}, {"v\"a2\"l", visual(0, 1), 1}, {"v\"\"\"l", visual(0, 1), 1}, {"v\"A", visual(0, 0), 1}, {"viq", visual(0, 0), 1}, {"vgqw", visual(0, 4), 1}, {"v3ql", visual(0, 1), 1},
		{"v\"al", visual(0, 1), 0}, {"v\"a2l", visual(0, 2), 0}, {"V\"av", visual(0, 0), 0},
	} {
		e := open(t, sample)
		fails := e.Type(c.keys)
		if s := e.State(); s != c.want || fails != c.fails {
			t.Errorf("P11: typed %q: %+v, %d failed, want %+v, %d failed", c.keys, s, fails, c.want, c.fails)
		}
	}
}

// TestWaysMark: each way leads in Visual and Lines to where it leads in Normal, and fails there, too.
func TestWaysMark(t *testing.T) {
	for _, text := range []string{sample, "", "\n", "a\n", "  ", "\n\na\n\nb", "a(b[c)d]e\n}"} {
		for _, begin := range []string{"", "3w", "G", "G$", "2G"} {
			for _, way := range []string{"h", "l", "99l", "0", "^", "$", "2$", "j", "k", "G", "2G", "gg", "3gg", "w", "4w", "W", "b", "2B", "e", "3E", "fb", "2fb", "tb", "Fb", "To", "fa;", "ta;,", ";", "}", "{", "2{", "%"} {
				n := open(t, text)
				n.Type(begin)
				anchor := n.State().At
				fails := n.Type(way)
				for key, mode := range map[string]int{"v": api.Visual, "V": api.Lines} {
					e := open(t, text)
					e.Type(begin + key)
					failed := e.Type(way)
					if s := e.State(); failed != fails || s != (api.State{Text: text, At: n.State().At, Anchor: anchor, Mode: mode}) {
						t.Errorf("P11: %q, typed %q: %+v, %d failed; in Normal at %d, %d failed", text, begin+key+way, s, failed, n.State().At, fails)
					}
				}
			}
		}
	}
}

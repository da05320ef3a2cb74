package modes

import "testing"

func TestCount(t *testing.T) {
	for _, c := range []struct {
		keys string
		want int
	}{
		{"", 0}, {"7", 7}, {"10", 10}, {"99", 99}, {"100", 99}, {"9876543210987654321098765432109", 99},
		{"d", 0}, {"3d", 3}, {"d4", 4}, {"3d4", 12}, {"9d11", 99}, {"10d10", 99}, {"99d99", 99}, {"999d", 99}, {"d999", 99},
		{"\"a3d4", 12}, {"2gu5", 10}, {"2>f", 2}, {"2d3i", 6},
	} {
		b := New("foo")
		if fails := b.Type(c.keys); fails != 0 || b.count() != c.want {
			t.Errorf("numbers: typed %q: %d, %d failed, want %d", c.keys, b.count(), fails, c.want)
		}
	}
}

func TestRegisterIsNamed(t *testing.T) {
	for c := range 256 {
		b := New("foo")
		fails := b.Type("\"" + string([]byte{byte(c)}))
		is := c == '"' || 'a' <= c && c <= 'z'
		switch {
		case is && (fails != 0 || b.register != byte(c) || !b.waiting()):
			t.Errorf("the name %d: %d failed, %q is named, waiting %v", c, fails, b.register, b.waiting())
		case !is && (b.register != 0 || b.waiting()):
			t.Errorf("no name %d: %q is named, waiting %v", c, b.register, b.waiting())
		case !is && c != 27 && fails != 1, c == 27 && fails != 0:
			t.Errorf("no name %d: %d failed", c, fails)
		}
	}
}

func TestRegisterIsForgotten(t *testing.T) {
	for _, keys := range []string{"\"al", "\"ah", "\"aq", "\"a\x1b", "\"a2l", "\"av", "v\"al", "\"a\"", "\"\"\"", "\"a2\"", "\"a\"b", "v\"a\"", "V\"a\"", "V\"a2\""} {
		b := New("foo")
		if b.Type(keys); b.register != 0 {
			t.Errorf("typed %q: %q is still named", keys, b.register)
		}
	}
}

package modes

import "testing"

func TestDoing(t *testing.T) {
	for _, c := range []struct{ keys, want string }{
		{"", ""}, {"l", ""}, {"2l", ""}, {"yw", ""}, {"yy", ""}, {"Y", ""}, {"\"ayy", ""}, {"u", ""}, {"\x12", ""}, {".", ""}, {"v\x1b", ""}, {"q", ""},
		{"dw", "dw"}, {"2dw", "2dw"}, {"d2w", "d2w"}, {"\"a2d3w", "\"a2d3w"}, {"\"a\"dw", "dw"}, {"\"a\"\"bdw", "\"bdw"}, {"dd", "dd"}, {"dfo", "dfo"}, {"fod;", "d;"}, {"diw", "diw"}, {"dgg", "dgg"}, {">>", ">>"}, {"<<", "<<"}, {"guw", "guw"}, {"gUiw", "gUiw"}, {"2gu2u", "2gu2u"},
		{"x", "x"}, {"\"a3x", "\"a3x"}, {"lX", "X"}, {"D", "D"}, {"ylp", "p"}, {"yl\"\"2P", "\"\"2P"}, {"rx", "rx"}, {"2r.", "2r."}, {"~", "~"}, {"3~", "3~"}, {"J", "J"}, {"2J", "2J"},
		{"ix\x1b", "ix\x1b"}, {"i\x1b", "i\x1b"}, {"3aq\n\x08.u\x1b", "3aq\n\x08.u\x1b"}, {"Ix\x1b", "Ix\x1b"}, {"Ax\x1b", "Ax\x1b"}, {"ox\x1b", "ox\x1b"}, {"Ox\x1b", "Ox\x1b"}, {"cwx\x1b", "cwx\x1b"}, {"\"a2clx\x1b", "\"a2clx\x1b"}, {"sx\x1b", "sx\x1b"}, {"Sx\x1b", "Sx\x1b"}, {"Cx\x1b", "Cx\x1b"}, {"i\x00\x01\x1b", "i\x00\x01\x1b"},
		{"ix", ""}, {"xix", "x"}, {"xd", "x"}, {"x\"a2d", "x"}, // not over yet
		{"xl", "x"}, {"xyw", "x"}, {"xu", "x"}, {"xu\x12", "x"}, {"x.", "x"}, {"x2.", "x"}, {"x\"a.", "x"}, {"xfo", "x"}, // no doing
		{"xq", "x"}, {"xdq", "x"}, {"xdfq", "x"}, {"x2\"", "x"}, {"x\"a\"", "x"}, {"xd0", "x"}, {"xcfq", "x"}, {"x9rx", "x"}, {"xr\n", "x"}, {"xdj9dj", "dj"}, // failed
		{"x\x1b", "x"}, {"x2\x1b", "x"}, {"xr\x1b", "x"}, {"xd\x1b", "x"}, {"2\x1bx", "x"}, {"2qx", "x"}, {"dqx", "x"}, // forgotten
		{"xvd", "x"}, {"xvcy\x1b", "x"}, {"xVd", "x"}, {"xVcy\x1b", "x"}, {"xv>", "x"}, {"xvlU", "x"}, {"xv\"a2d", "x"}, {"xviwd", "x"}, {"xv\"asy\x1b", "x"}, {"xvjc", "x"}, {"vdx", "x"}, {"vcy\x1bx", "x"}, {"vcy\x1b", ""}, // marked
		{"xdw", "dw"}, {"rxx", "x"}, {"xiy\x1b", "iy\x1b"}, {"iy\x1bx", "x"}, {"iy\x1b.", "iy\x1b"}, {"x.iy\x1b..", "iy\x1b"},
	} {
		b := New("foo\nbar\nbaz")
		if b.Type(c.keys); b.doing != c.want {
			t.Errorf("P9: typed %q: the last doing is %q, want %q", c.keys, b.doing, c.want)
		}
	}
}

// TestKeysAreForgotten: what is over leaves no keys behind.
func TestKeysAreForgotten(t *testing.T) {
	for _, keys := range []string{"", "x", "l", "2l", "q", "2q", "d\x1b", "r\x1b", "ix\x1b", "v", "v\x1b", "vlc", "vlcx", "vlcx\x1b", "x.", "."} {
		b := New("foo")
		if b.Type(keys); len(b.typed) > 0 {
			t.Errorf("P9: typed %q: %q is kept", keys, b.typed)
		}
	}
}

package nib

import (
	"strings"
	"testing"

	"nib/api"
)

func open(t *testing.T, text string) *Editor {
	t.Helper()
	e, errno := New(text)
	if e == nil || errno != api.OK {
		t.Fatalf("P3: New(%q): %v, %d", text, e != nil, errno)
	}
	return e
}

// row: a text, keys; where the cursor is then, and how many commands failed.
type row struct {
	text, keys string
	at, fails  int
}

// check wants Normal, nothing begun and the same text behind each row.
func check(t *testing.T, what string, rows []row) {
	t.Helper()
	for _, r := range rows {
		checkEdits(t, what, []edit{{r.text, r.keys, r.text, r.at, r.fails}})
	}
}

func TestNew(t *testing.T) {
	for _, text := range []string{"", "\n", " ", "foo\nbar\n", "\x00\x1b\xff", strings.Repeat("x", api.MaxText), strings.Repeat("\n", api.MaxText)} {
		if s := open(t, text).State(); s != (api.State{Text: text}) {
			t.Errorf("P3: New(%q): %+v", text, s)
		}
	}
	for _, length := range []int{api.MaxText + 1, 5000} {
		if e, errno := New(strings.Repeat("x", length)); e != nil || errno != api.ErrText {
			t.Errorf("P3: New of %d bytes: %v, %d", length, e != nil, errno)
		}
	}
}

func TestFails(t *testing.T) {
	check(t, "P4", []row{
		{"foo", "", 0, 0},
		{"foo", "q", 0, 1},
		{"foo", "qqq", 0, 3},
		{"foo", "3qll", 2, 1},     // the number is forgotten
		{"foo", "dql", 1, 1},      // so is the verb
		{"foo", "\"aql", 1, 1},    // so is the register's name
		{"foo", "gql", 1, 1},      // so is a part of a command
		{"foo", "2d3ql", 1, 1},    // all of them
		{"foo", "diql", 1, 1},     // no object
		{"foo", "d\"l", 1, 1},     // a name behind a verb
		{"foo", "dvl", 1, 1},      // no way
		{"foo", "dyl", 1, 1},      // another verb
		{"foo", "dgul", 1, 1},     // a verb of two keys behind a verb
		{"foo", "gugul", 1, 1},    // only the last key stands for it
		{"foo", "gUul", 1, 1},     // the last key of another verb
		{"foo", "3\"l", 1, 1},     // a name behind a number
		{"foo", "\"a3\"l", 1, 1},  // likewise
		{"foo", "\"a\"l", 1, 1},   // a name behind a name
		{"foo", "\"\"\"l", 1, 1},  // likewise
		{"foo", "\"a\"bl", 1, 2},  // what would name it is a command
		{"foo", "\"Al", 1, 1},     // no name
		{"foo", "\"1l", 1, 1},     // no name
		{"foo", "\"\nl", 1, 1},    // no name
		{"foo", "llh3h", 0, 0},    // not ahead of the line's beginning
		{"foo", "llhhh", 0, 1},    // three h, but two places
		{"foo bar", "dfql", 1, 1}, // a way that fails behind a verb
		{"foo bar", "3dhl", 1, 1}, // likewise
		{"foo bar", "\x00\x7f\x80\xff\rl", 1, 5},
	})
}

func TestEscape(t *testing.T) {
	check(t, "P4", []row{
		{"foo", "\x1b\x1b", 0, 0},
		{"foo", "2\x1bl", 1, 0},
		{"foo", "d\x1bl", 1, 0},
		{"foo", "d2\x1bl", 1, 0},
		{"foo", "\"\x1bl", 1, 0},
		{"foo", "\"a\x1bl", 1, 0},
		{"foo", "g\x1bl", 1, 0},
		{"foo", "gu\x1bl", 1, 0},
		{"foo", "di\x1bl", 1, 0},
		{"foo", "r\x1bl", 1, 0},
		{"foo", "f\x1bl", 1, 0},
		{"f\x1b\x1b", "f\x1b;l", 1, 1}, // Escape is no byte to look for
		{"foo", "v\x1bl", 1, 0},
		{"foo", "V\x1bl", 1, 0},
		{"foo", "v2\x1bl", 1, 0},
		{"foo", "vf\x1bl", 1, 0},
		{"foo", "v\"\x1bl", 1, 0},
		{"foo", "Vi\x1bl", 1, 0},
		{"foo", "lvl\x1b", 2, 0},
	})
}

// The keys that can come: of ways; behind a verb (and its own last key); behind a name or a number, and ahead of all, in Normal, and in Visual and Lines; behind the key of a name.
const (
	wayKeys    = "hl0^$jkGgwWbBeEftFT;,}{%"
	verbKeys   = wayKeys + "123456789ia\x1b"
	laterKeys  = wayKeys + "123456789dcy><xXDCsSYprP~JiaIAoOvVu\x12.\x1b"
	normalKeys = laterKeys + "\""
	laterMarks = wayKeys + "123456789iaovVdxcsy><uU\x1b"
	markKeys   = laterMarks + "\""
	nameKeys   = "\"abcdefghijklmnopqrstuvwxyz\x1b"
)

// checkOthersFail wants of all keys but those that go on there that they fail, and that the state is the one ahead of what was begun.
func checkOthersFail(t *testing.T, ahead string, begun map[string]string) {
	t.Helper()
	for begin, goesOn := range begun {
		for c := range 256 {
			if strings.IndexByte(goesOn, byte(c)) >= 0 {
				continue
			}
			e := open(t, "foo bar")
			e.Type(ahead)
			before := e.State()
			keys := begin + string([]byte{byte(c)})
			if fails := e.Type(keys); fails != 1 || e.State() != before {
				t.Errorf("P4: typed %q behind %q: %+v, %d failed", keys, ahead, e.State(), fails)
			}
			if fails := e.Type("\"byl"); fails != 0 || len(registersOf(e)) != 2 {
				t.Errorf("P4: typed %q behind %q: a register's name is kept: %+v, %d failed", keys, ahead, registersOf(e), fails)
			}
		}
	}
}

func TestNoCommand(t *testing.T) {
	for _, ahead := range []string{"", "w"} {
		checkOthersFail(t, ahead, map[string]string{
			"": normalKeys, "2": laterKeys, "\"a": laterKeys, "\"\"": laterKeys, "\"a2": laterKeys, "\"": nameKeys,
			"d": verbKeys + "d", "\"ad": verbKeys + "d", "2c3": verbKeys + "c", "y": verbKeys + "y", ">": verbKeys + ">", "<": verbKeys + "<", "gu": verbKeys + "u", "\"a2gU": verbKeys + "U",
			"g": "guU\x1b", "\"a2g": "guU\x1b", "dg": "g\x1b", "gug": "g\x1b",
		})
	}
	for _, ahead := range []string{"v", "V", "wvl", "wVl"} {
		checkOthersFail(t, ahead, map[string]string{
			"": markKeys, "2": laterMarks, "\"a": laterMarks, "\"\"": laterMarks, "\"a2": laterMarks, "\"": nameKeys, "g": "g\x1b", "\"ag": "g\x1b",
		})
	}
	for c := range 256 {
		if strings.IndexByte(normalKeys, byte(c)) < 0 {
			check(t, "P4, no command in an empty text", []row{{"", string([]byte{byte(c)}), 0, 1}})
		}
	}
}

func TestWaiting(t *testing.T) {
	for _, keys := range []string{
		"1", "9", "10", "\"", "\"\"", "\"a", "\"z", "\"a2", "d", "c", "y", ">", "<", "g", "gu", "gU", "d2", "dg", "gug", "guf", "df", "di", "da", "\"a3d2i",
		"f", "t", "F", "T", "2f", "r", "3r", "v1", "vg", "vf", "v\"", "v\"a", "vi", "va", "V2", "Vt", "q3", "l\"a", "\"a\"\"", "\"a\"\"b",
	} {
		e := open(t, "foo bar")
		e.Type(keys)
		if !e.State().Waiting {
			t.Errorf("P5: typed %q: not waiting", keys)
		}
		if e.Type("\x1b") != 0 || e.State().Waiting || e.State().Mode != api.Normal {
			t.Errorf("P5: typed %q and Escape: %+v", keys, e.State())
		}
	}
	for _, keys := range []string{"", "l", "2l", "0", "\"al", "gg", "fo", "f1", "v", "vl", "v2l", "vfo", "V", "vv", "q", "2q", "dq", "vq", "v2q", "dfq", "\"A", "\"a\"", "\"\"\"", "\"a2\"", "v\"a\"", "V\"a\"", "dw", "\"a2dd", "diw", "guu", "i", "2i", "\"aA", "id2", "cw", "c2wd", "2s", "vd", "v\"ay", "viw", "v2c", "i\x1b"} {
		e := open(t, "foo bar")
		if e.Type(keys); e.State().Waiting {
			t.Errorf("P5: typed %q: waiting", keys)
		}
	}
}

func TestRegisters(t *testing.T) {
	for _, keys := range []string{"", "\"a", "wvl"} {
		e := open(t, "foo bar")
		e.Type(keys)
		for c := range 256 {
			if s, lines := e.Register(byte(c)); s != "" || lines {
				t.Errorf("P5: typed %q: register %d has %q, %v", keys, c, s, lines)
			}
		}
	}
}

package nib

import (
	"strings"
	"testing"

	"nib/api"
)

// kept: what a register has.
type kept struct {
	text  string
	lines bool
}

// registersOf: all registers that have something or are of lines, of all bytes.
func registersOf(e *Editor) map[byte]kept {
	all := map[byte]kept{}
	for c := range 256 {
		if text, lines := e.Register(byte(c)); text != "" || lines {
			all[byte(c)] = kept{text, lines}
		}
	}
	return all
}

func TestWrittenRegisters(t *testing.T) {
	const text = "foo bar (baz)\n\n  x\nlast"
	for _, c := range []struct {
		keys  string
		named string // the registers that have it
		want  string
		lines bool
	}{
		{"dw", "\"", "foo ", false}, {"\"adw", "\"a", "foo ", false}, {"\"zdw", "\"z", "foo ", false}, {"\"\"dw", "\"", "foo ", false}, {"\"a2dw", "\"a", "foo bar ", false}, {"\"a\"dw", "\"", "foo ", false}, {"\"a\"\"bdw", "\"b", "foo ", false}, {"\"a2\"dw", "\"", "foo ", false},
		{"yw", "\"", "foo ", false}, {"\"byw", "\"b", "foo ", false}, {"wyb", "\"", "foo ", false}, {"ye", "\"", "foo", false}, {"y2$", "\"", "foo bar (baz)\n", false}, {"y%", "\"", "foo bar (baz)", false}, {"$yi(", "\"", "baz", false}, {"$\"qya(", "\"q", "(baz)", false}, {"y}", "\"", "foo bar (baz)\n", false},
		{"cwx\x1b", "\"", "foo", false}, {"\"ccwx\x1b", "\"c", "foo", false}, {"\"dc$x\x1b", "\"d", "foo bar (baz)", false}, {"\"accx\x1b", "\"a", "foo bar (baz)\n", true},
		{"dd", "\"", "foo bar (baz)\n", true}, {"\"ayy", "\"a", "foo bar (baz)\n", true}, {"2yy", "\"", "foo bar (baz)\n\n", true}, {"jyy", "\"", "\n", true}, {"jdj", "\"", "\n  x\n", true}, {"Gdd", "\"", "last\n", true}, {"Gyk", "\"", "  x\nlast\n", true}, {"yG", "\"", "foo bar (baz)\n\n  x\nlast\n", true}, {"\"eyip", "\"e", "foo bar (baz)\n", true}, {"dap", "\"", "foo bar (baz)\n\n", true},
		{"x", "\"", "f", false}, {"\"a3x", "\"a", "foo", false}, {"$X", "\"", "z", false}, {"\"aD", "\"a", "foo bar (baz)", false}, {"\"aC\x1b", "\"a", "foo bar (baz)", false}, {"\"a2s\x1b", "\"a", "fo", false}, {"\"aS\x1b", "\"a", "foo bar (baz)\n", true}, {"\"aY", "\"a", "foo bar (baz)\n", true}, {"2Y", "\"", "foo bar (baz)\n\n", true},
		{"vey", "\"", "foo", false}, {"ve\"zy", "\"z", "foo", false}, {"ve\"z\"y", "\"", "foo", false}, {"ve\"z\"\"yd", "\"y", "foo", false}, {"V\"z\"y", "\"", "foo bar (baz)\n", true}, {"\"zvey", "\"", "foo", false}, {"ve\"z9d", "\"z", "foo", false}, {"ve\"zcx\x1b", "\"z", "foo", false}, {"v\"zx", "\"z", "f", false}, {"v\"zsx\x1b", "\"z", "f", false}, {"vj\"ay", "\"a", "foo bar (baz)\n\n", false}, {"V\"ay", "\"a", "foo bar (baz)\n", true}, {"Vjd", "\"", "foo bar (baz)\n\n", true}, {"VG\"bcx\x1b", "\"b", "foo bar (baz)\n\n  x\nlast\n", true}, {"GVy", "\"", "last\n", true},
		{"", "", "", false}, {"\"a", "", "", false}, {">>", "", "", false}, {"2j<<", "", "", false}, {"\"aguu", "", "", false}, {"\"agUU", "", "", false}, {"ix\x1b", "", "", false}, {"\"aix\x1b", "", "", false}, {"ox\x1b", "", "", false}, {"v>", "", "", false}, {"vU", "", "", false}, {"vu", "", "", false}, {"v\x1b", "", "", false}, {"\"aw\"bb", "", "", false},
		{"dfq", "", "", false}, {"\"adh", "", "", false}, {"d0", "", "", false}, {"\"aci{", "", "", false}, {"yfq", "", "", false}, {"jx", "", "", false}, {"jD", "", "", false}, {"j\"asx\x1b", "", "", false}, {"j\"aCx\x1b", "", "", false},
	} {
		e := open(t, text)
		e.Type(c.keys)
		got := registersOf(e)
		for _, name := range []byte(c.named) {
			if got[name] != (kept{c.want, c.lines}) {
				t.Errorf("P7: typed %q: the register %c has %+v, want %q, %v", c.keys, name, got[name], c.want, c.lines)
			}
		}
		if len(got) != len(c.named) {
			t.Errorf("P7: typed %q: the registers have %+v, want %q in %q", c.keys, got, c.want, c.named)
		}
	}
}

// TestRegistersStay: a register has what was written last, whatever other ones take.
func TestRegistersStay(t *testing.T) {
	e := open(t, "foo bar\nbaz")
	e.Type("\"ayy\"byw")
	for _, c := range []struct {
		keys string
		want map[byte]kept
	}{
		{"", map[byte]kept{'a': {"foo bar\n", true}, 'b': {"foo ", false}, '"': {"foo ", false}}},
		{"\"ayl", map[byte]kept{'a': {"f", false}, 'b': {"foo ", false}, '"': {"f", false}}},
		{"yfq", map[byte]kept{'a': {"f", false}, 'b': {"foo ", false}, '"': {"f", false}}},
		{"dd", map[byte]kept{'a': {"f", false}, 'b': {"foo ", false}, '"': {"foo bar\n", true}}},
		{"\"bc0\x1b", map[byte]kept{'a': {"f", false}}}, // a nothing is written, too
		{"yy", map[byte]kept{'a': {"f", false}, '"': {"baz\n", true}}},
		{"c0\x1b", map[byte]kept{'a': {"f", false}}}, // which is not of lines
	} {
		e.Type(c.keys)
		got := registersOf(e)
		same := len(got) == len(c.want)
		for name, want := range c.want {
			same = same && got[name] == want
		}
		if !same {
			t.Errorf("P7: behind %q: the registers have %+v, want %+v", c.keys, got, c.want)
		}
	}
}

// TestGreatRegister: a register is no text that is edited, so lines of 1000 bytes have room for their last byte 10.
func TestGreatRegister(t *testing.T) {
	long := strings.Repeat("x", api.MaxText)
	for _, keys := range []string{"yy", "dd", "Vy", "S\x1b"} {
		e := open(t, long)
		fails := e.Type(keys)
		if text, lines := e.Register('"'); fails != 0 || text != long+"\n" || !lines {
			t.Errorf("P7: 1000 bytes, typed %q: %d failed, %d bytes, %v", keys, fails, len(text), lines)
		}
	}
}

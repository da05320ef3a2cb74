package nib

import (
	"strings"
	"testing"

	"nib/api"
)

func TestObjects(t *testing.T) {
	checkEdits(t, "P8, words", []edit{
		{"foo bar.baz  qux", "diw", " bar.baz  qux", 0, 0}, {"foo bar.baz  qux", "daw", "bar.baz  qux", 0, 0}, {"foo bar.baz  qux", "wdaw", "foo.baz  qux", 3, 0}, {"foo bar.baz  qux", "wdaW", "foo qux", 4, 0}, {"foo bar.baz  qux", "7ldiw", "foo barbaz  qux", 7, 0}, {"foo bar.baz  qux", "7ldiW", "foo   qux", 4, 0}, {"foo bar.baz  qux", "12ldiw", "foo bar.bazqux", 11, 0}, {"foo bar.baz  qux", "12ldaw", "foo bar.baz", 10, 0}, {"foo bar.baz  qux", "$daw", "foo bar.baz", 10, 0}, {"foo bar.baz  qux", "3diw", " bar.baz  qux", 0, 0},
		{"  foo", "0daw", "", 0, 0}, {"  foo", "daw", "", 0, 0}, {"a", "daw", "", 0, 0}, {"a\n b", "daw", "\n b", 0, 0}, {"a \n b", "daw", "\n b", 0, 0}, {"a\n b", "jdaw", "a\n", 2, 0}, {"ab\ncd", "jdiw", "ab\n", 3, 0}, {"  ", "diw", "", 0, 0}, {"foo bar", "ciwx\x1b", "x bar", 0, 0}, {"foo bar", "cawx\x1b", "xbar", 0, 0},
		{"  ", "daw", "  ", 0, 1}, {"a  ", "$daw", "a  ", 2, 1}, {"a  \nb", "2ldaW", "a  \nb", 2, 1}, {"", "diw", "", 0, 1}, {"", "diW", "", 0, 1}, {"", "daW", "", 0, 1}, {"a\n\nb", "jdiw", "a\n\nb", 2, 1}, {"a\n\nb", "jdaw", "a\n\nb", 2, 1},
	})
	checkEdits(t, "P8, brackets", []edit{
		{"f(a, (b), [c])", "2ldi(", "f()", 2, 0}, {"f(a, (b), [c])", "ldi(", "f()", 2, 0}, {"f(a, (b), [c])", "$di)", "f()", 2, 0}, {"f(a, (b), [c])", "$da)", "f", 0, 0}, {"f(a, (b), [c])", "6lda(", "f(a, , [c])", 5, 0}, {"f(a, (b), [c])", "5ldi(", "f(a, (), [c])", 6, 0}, {"f(a, (b), [c])", "8ldi(", "f()", 2, 0}, {"f(a, (b), [c])", "11lda]", "f(a, (b), )", 10, 0}, {"f(a, (b), [c])", "12ldi[", "f(a, (b), [])", 11, 0}, {"f(a, (b), [c])", "9di(", "f(a, (b), [c])", 0, 1},
		{"{\n a\n}", "jdi{", "{}", 1, 0}, {"{\n a\n}", "da}", "", 0, 0}, {"{\n\n}", "jdi}", "{}", 1, 0}, {"([)]", "ldi(", "()]", 1, 0}, {"([)]", "2ldi[", "([]", 2, 0}, {"(()", "ldi(", "(()", 1, 1}, {"(()", "2lda(", "(", 0, 0}, {"())", "$di(", "())", 2, 1}, {"(a", "ldi(", "(a", 1, 1}, {"a)", "di(", "a)", 0, 1}, {"", "di(", "", 0, 1}, {"()", "da(", "", 0, 0}, {"()", "di(", "()", 0, 1}, {"()", "ldi(", "()", 1, 1}, {"(a)", "di[", "(a)", 0, 1}, {"(a)", "di{", "(a)", 0, 1}, {"(a)", "di}", "(a)", 0, 1},
	})
	checkEdits(t, "P8, quotes", []edit{
		{"a \"b\" c \"d\"", "di\"", "a \"\" c \"d\"", 3, 0}, {"a \"b\" c \"d\"", "4ldi\"", "a \"\" c \"d\"", 3, 0}, {"a \"b\" c \"d\"", "5ldi\"", "a \"b\" c \"\"", 9, 0}, {"a \"b\" c \"d\"", "$da\"", "a \"b\" c ", 7, 0}, {"a \"b\" c \"d\"", "da\"", "a  c \"d\"", 2, 0}, {"\"a\" \"b", "3ldi\"", "\"a\" \"b", 3, 1}, {"\"a\nb\"", "di\"", "\"a\nb\"", 0, 1}, {"\"a\"\nb", "jdi\"", "\"a\"\nb", 4, 1}, {"\"\n\"a\"", "jdi\"", "\"\n\"\"", 3, 0}, {"'a' \"b\"", "di'", "'' \"b\"", 1, 0}, {"'a' \"b\"", "di\"", "'a' \"\"", 5, 0}, {"'\"' \"b\"", "di\"", "'\"\"b\"", 2, 0}, {"\"\"", "di\"", "\"\"", 0, 1}, {"\"\"", "da\"", "", 0, 0}, {"", "di'", "", 0, 1}, {"a", "da'", "a", 0, 1},
	})
	checkEdits(t, "P8, lines", []edit{
		{"a\nb\n\n\nc", "dip", "\n\nc", 0, 0}, {"a\nb\n\n\nc", "jdip", "\n\nc", 0, 0}, {"a\nb\n\n\nc", "dap", "c", 0, 0}, {"a\nb\n\n\nc", "2jdip", "a\nb\nc", 4, 0}, {"a\nb\n\n\nc", "3jdip", "a\nb\nc", 4, 0}, {"a\nb\n\n\nc", "3jdap", "a\nb", 2, 0}, {"a\nb\n\n\nc", "Gdip", "a\nb\n\n", 5, 0}, {"a\nb\n\n\nc", "Gdap", "a\nb", 2, 0}, {"\n\na", "dap", "", 0, 0}, {"a\n \nb", "dip", "", 0, 0}, {"a\n\n", "jdap", "", 0, 0}, {"a\n\nb", "cipx\x1b", "x\n\nb", 0, 0}, {"a\n\nb", "capx\x1b", "x\nb", 0, 0}, {"a\n\nb", "jcipx\x1b", "a\nx\nb", 2, 0},
		{"", "dip", "", 0, 0}, {"\n", "dip", "", 0, 0}, {"", "dap", "", 0, 1}, {"\n", "dap", "\n", 0, 1}, {"a\nb", "dap", "a\nb", 0, 1}, {" \n ", "dap", " \n ", 0, 1},
	})
}

// TestNoObjects: behind i and a all keys fail but those of objects, and Escape.
func TestNoObjects(t *testing.T) {
	const text = "a\n\n[{('\"x\"')}]"
	for c := range 256 {
		for _, begin := range []string{"di", "da", "ci", "ya", ">i", "<a", "gui", "gUa", "2d3a", "vi", "Va", "v2i"} {
			want := 1
			if strings.IndexByte("wW()[]{}\"'p\x1b", byte(c)) >= 0 {
				want = 0
			}
			e := open(t, text)
			e.Type("Gfx")
			before := e.State().At
			fails := e.Type(begin + string([]byte{byte(c)}))
			after := e.State()
			if fails != want || want == 1 && (after.Text != text || after.At != before || after.Waiting || after.Mode == api.Insert) {
				t.Errorf("P8: typed %q and the byte %d: %d failed, %+v", begin, c, fails, after)
			}
		}
	}
}

package text

import "testing"

func TestLines(t *testing.T) {
	for _, c := range []struct {
		text  Text
		place int
		want  Stretch
		last  int
		first int
	}{
		{"", 0, Stretch{0, 0}, 0, 0},
		{"abc", 0, Stretch{0, 3}, 2, 0},
		{"abc", 3, Stretch{0, 3}, 2, 0},
		{"a\n", 1, Stretch{0, 1}, 0, 0},
		{"a\n", 2, Stretch{2, 2}, 2, 2},
		{"\n\n", 0, Stretch{0, 0}, 0, 0},
		{"\n\n", 1, Stretch{1, 1}, 1, 1},
		{"\n\n", 2, Stretch{2, 2}, 2, 2},
		{"a\n \t x\nb", 4, Stretch{2, 6}, 5, 5},
		{"a\n \t \nb", 5, Stretch{2, 5}, 4, 4},
		{"a\n  ", 4, Stretch{2, 4}, 3, 3},
	} {
		line := c.text.Line(c.place)
		if line != c.want || line.Last() != c.last || c.text.First(line) != c.first {
			t.Errorf("%q, place %d: line %v, last %d, first %d, want %v, %d, %d", c.text, c.place, line, line.Last(), c.text.First(line), c.want, c.last, c.first)
		}
	}
}

func TestBeside(t *testing.T) {
	for _, c := range []struct {
		text      Text
		place     int
		direction int
		want      Stretch
		is        bool
	}{
		{"", 0, Down, Stretch{}, false},
		{"", 0, Up, Stretch{}, false},
		{"a\nbc\n", 0, Down, Stretch{2, 4}, true},
		{"a\nbc\n", 1, Up, Stretch{}, false},
		{"a\nbc\n", 4, Down, Stretch{5, 5}, true},
		{"a\nbc\n", 5, Down, Stretch{}, false},
		{"a\nbc\n", 5, Up, Stretch{2, 4}, true},
		{"\n\n", 1, Up, Stretch{0, 0}, true},
		{"\n\n", 1, Down, Stretch{2, 2}, true},
	} {
		if line, is := c.text.Beside(c.text.Line(c.place), c.direction); line != c.want || is != c.is {
			t.Errorf("%q, beside %d to %d: %v, %v, want %v, %v", c.text, c.place, c.direction, line, is, c.want, c.is)
		}
	}
}

func TestFurther(t *testing.T) {
	const three Text = "a\n\nc"
	for _, c := range []struct {
		place, lines, direction int
		want                    Stretch
		gone                    int
	}{
		{0, 0, Down, Stretch{0, 1}, 0},
		{0, 2, Down, Stretch{3, 4}, 2},
		{0, 3, Down, Stretch{3, 4}, 2},
		{3, 1, Up, Stretch{2, 2}, 1},
		{3, 99, Up, Stretch{0, 1}, 2},
	} {
		if line, gone := three.Further(three.Line(c.place), c.lines, c.direction); line != c.want || gone != c.gone {
			t.Errorf("%d lines from %d to %d: %v, %d, want %v, %d", c.lines, c.place, c.direction, line, gone, c.want, c.gone)
		}
	}
}

func TestClasses(t *testing.T) {
	count := map[Class]int{}
	for c := range 256 {
		class := ClassOf(byte(c), false)
		count[class]++
		great := class
		if class == Sign {
			great = Word
		}
		if ClassOf(byte(c), true) != great {
			t.Errorf("byte %d is %d, and %d for the great keys", c, class, ClassOf(byte(c), true))
		}
	}
	if count[Blank] != 2 || count[LineEnd] != 1 || count[Word] != 26+26+10+1+128 {
		t.Errorf("how many bytes are of each class: %v", count)
	}
	for c, want := range map[byte]Class{
		' ': Blank, '\t': Blank, '\n': LineEnd, 'a': Word, 'z': Word, 'A': Word, 'Z': Word, '0': Word, '9': Word, '_': Word, 128: Word, 255: Word,
		0: Sign, '\r': Sign, 127: Sign, '@': Sign, '[': Sign, '`': Sign, '{': Sign, '/': Sign, ':': Sign,
	} {
		if ClassOf(c, false) != want {
			t.Errorf("byte %d is %d, want %d", c, ClassOf(c, false), want)
		}
	}
}

func TestRuns(t *testing.T) {
	const some Text = "ab.-c \t\n\nd"
	for _, c := range []struct {
		place int
		great bool
		want  Stretch
	}{
		{0, false, Stretch{0, 2}}, {1, false, Stretch{0, 2}}, {2, false, Stretch{2, 4}}, {4, false, Stretch{4, 5}},
		{3, true, Stretch{0, 5}}, {6, false, Stretch{5, 7}}, {5, true, Stretch{5, 7}},
		{7, false, Stretch{7, 7}}, {8, true, Stretch{8, 8}}, {9, false, Stretch{9, 10}}, {10, false, Stretch{10, 10}},
	} {
		if run := some.Run(c.place, c.great); run != c.want {
			t.Errorf("the run at %d (great: %v): %v, want %v", c.place, c.great, run, c.want)
		}
	}
	if run := Text("").Run(0, false); run != (Stretch{}) {
		t.Errorf("the run of an empty text: %v", run)
	}
}

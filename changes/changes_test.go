package changes

import (
	"math/rand"
	"testing"

	"nib/text"
)

func TestHistory(t *testing.T) {
	h := Of("a")
	for _, c := range []struct {
		key   byte // Keep, Undo or Redo
		text  text.Text
		count int
		want  text.Text
		is    bool
	}{
		{'u', "", 1, "", false}, {'r', "", 1, "", false}, {'k', "a", 0, "", false}, {'u', "", 1, "", false},
		{'k', "ab", 0, "", false}, {'k', "b", 0, "", false}, {'k', "b", 0, "", false}, {'r', "", 1, "", false},
		{'u', "", 1, "ab", true}, {'u', "", 1, "a", true}, {'u', "", 1, "", false}, {'r', "", 2, "b", true}, {'r', "", 1, "", false},
		{'u', "", 9, "a", true}, {'r', "", 9, "b", true}, {'u', "", 1, "ab", true}, {'k', "ab", 0, "", false}, {'r', "", 1, "b", true},
		{'u', "", 1, "ab", true}, {'k', "", 0, "", false}, {'r', "", 1, "", false}, {'u', "", 1, "ab", true}, {'u', "", 1, "a", true}, {'r', "", 2, "", true},
	} {
		var got text.Text
		var is bool
		switch c.key {
		case 'k':
			h.Keep(c.text)
		case 'u':
			got, is = h.Undo(c.count)
		case 'r':
			got, is = h.Redo(c.count)
		}
		if got != c.want || is != c.is {
			t.Errorf("P9: %c %d: %q, %v, want %q, %v", c.key, c.count, got, is, c.want, c.is)
		}
	}
}

// TestSteps: a history holds no more of the texts than what they differ in.
func TestSteps(t *testing.T) {
	h := Of("foo bar baz")
	h.Keep("foo baz")
	h.Keep("foo baz!")
	if len(h.back) != 2 || h.back[0] != (step{text.Stretch{6, 6}, "r ba"}) || h.back[1] != (step{text.Stretch{7, 8}, ""}) {
		t.Errorf("the steps back: %v", h.back)
	}
	h.Undo(2)
	if len(h.back) != 0 || len(h.forth) != 2 || h.forth[0] != (step{text.Stretch{7, 7}, "!"}) || h.forth[1] != (step{text.Stretch{6, 10}, ""}) {
		t.Errorf("the steps forth: %v", h.forth)
	}
}

// TestWalks: a history against a plain list of all texts, and where in it one is.
func TestWalks(t *testing.T) {
	r := rand.New(rand.NewSource(3))
	for range 300 {
		list, now := []text.Text{""}, 0
		h := Of("")
		for range 60 {
			count := 1 + r.Intn(4)
			switch r.Intn(3) {
			case 0:
				made := list[now]
				from := r.Intn(made.End() + 1)
				made = made.With(text.Stretch{from, from + r.Intn(made.End()-from+1)}, []string{"", "a", "b", "ab\n"}[r.Intn(4)])
				if h.Keep(made); made != list[now] {
					now++
					list = append(list[:now:now], made)
				}
			case 1:
				got, is := h.Undo(count)
				to := max(now-count, 0)
				if is != (now > 0) || is && got != list[to] {
					t.Fatalf("P13: %d u at %d of %q: %q, %v", count, now, list, got, is)
				}
				now = to
			case 2:
				got, is := h.Redo(count)
				to := min(now+count, len(list)-1)
				if is != (now < len(list)-1) || is && got != list[to] {
					t.Fatalf("P13: %d Redo at %d of %q: %q, %v", count, now, list, got, is)
				}
				now = to
			}
		}
	}
}

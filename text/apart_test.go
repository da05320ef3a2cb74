package text

import "testing"

func TestApart(t *testing.T) {
	for _, c := range []struct {
		one, other  Text
		own, others Stretch
	}{
		{"", "", Stretch{0, 0}, Stretch{0, 0}}, {"abc", "abc", Stretch{3, 3}, Stretch{3, 3}}, {"", "ab", Stretch{0, 0}, Stretch{0, 2}}, {"ab", "", Stretch{0, 2}, Stretch{0, 0}},
		{"abcd", "abxd", Stretch{2, 3}, Stretch{2, 3}}, {"abcd", "abd", Stretch{2, 3}, Stretch{2, 2}}, {"foo baz", "foo bar baz", Stretch{6, 6}, Stretch{6, 10}},
		{"aa", "aaa", Stretch{2, 2}, Stretch{2, 3}}, {"aaa", "aa", Stretch{2, 3}, Stretch{2, 2}}, {"aba", "a", Stretch{1, 3}, Stretch{1, 1}}, {"xa", "ya", Stretch{0, 1}, Stretch{0, 1}}, {"ax", "ay", Stretch{1, 2}, Stretch{1, 2}},
	} {
		if own, others := c.one.Apart(c.other); own != c.own || others != c.others {
			t.Errorf("%q and %q differ in %v and %v, want %v and %v", c.one, c.other, own, others, c.own, c.others)
		}
	}
}

// TestApartMakesOther: at all pairs of short texts what stands apart is all that leads from the one to the other, and nothing more.
func TestApartMakesOther(t *testing.T) {
	all := []Text{""}
	for i := 0; len(all[i]) < 5; i++ {
		all = append(all, all[i]+"a", all[i]+"b")
	}
	for _, one := range all {
		for _, other := range all {
			own, others := one.Apart(other)
			if own[0] != others[0] || one.With(own, other.Of(others)) != other || other.With(others, one.Of(own)) != one {
				t.Fatalf("%q and %q differ in %v and %v", one, other, own, others)
			}
			if own.IsEmpty() || others.IsEmpty() {
				continue
			}
			if one[own[0]] == other[others[0]] || one[own[1]-1] == other[others[1]-1] {
				t.Fatalf("%q and %q differ in less than %v and %v", one, other, own, others)
			}
		}
	}
}

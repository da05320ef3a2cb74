package text

import "testing"

func TestLetters(t *testing.T) {
	for c := range 256 {
		small, great, turned := byte(c), byte(c), byte(c)
		switch {
		case 'a' <= c && c <= 'z':
			great, turned = byte(c-32), byte(c-32)
		case 'A' <= c && c <= 'Z':
			small, turned = byte(c+32), byte(c+32)
		}
		if b := byte(c); Small(b) != small || Great(b) != great || Turned(b) != turned {
			t.Errorf("byte %d: small %d, great %d, turned %d, want %d, %d, %d", c, Small(b), Great(b), Turned(b), small, great, turned)
		}
	}
}

func TestEach(t *testing.T) {
	for content, want := range map[string]string{"": "", "a": "b", "a\xff\n": "b\x00\v"} {
		if got := Each(content, func(c byte) byte { return c + 1 }); got != want {
			t.Errorf("each byte of %q: %q, want %q", content, got, want)
		}
	}
}

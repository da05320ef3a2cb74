package ways

import (
	"strings"

	"nib/text"
)

func (s Start) toPartner() (Goal, bool) {
	line := s.line()
	length := strings.IndexAny(string(s.Text[s.At:line[1]]), text.Brackets)
	if length < 0 {
		return Goal{}, false
	}
	place, is := s.Text.Partner(s.At + length)
	if !is {
		return Goal{}, false
	}
	return Goal{place, In}, true
}

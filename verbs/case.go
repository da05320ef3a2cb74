package verbs

// cased goes by bytes: a text may hold ones that are no letters of any language.
func cased(verb byte, content string) string {
	bytes := []byte(content)
	for i, c := range bytes {
		switch {
		case verb == Small && 'A' <= c && c <= 'Z':
			bytes[i] = c - 'A' + 'a'
		case verb == Great && 'a' <= c && c <= 'z':
			bytes[i] = c - 'a' + 'A'
		}
	}
	return string(bytes)
}

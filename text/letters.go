package text

// Small is a great letter's small one; other bytes stay as they are.
func Small(c byte) byte {
	if 'A' <= c && c <= 'Z' {
		return c - 'A' + 'a'
	}
	return c
}

// Great is a small letter's great one; other bytes stay as they are.
func Great(c byte) byte {
	if 'a' <= c && c <= 'z' {
		return c - 'a' + 'A'
	}
	return c
}

// Turned is a letter's other one.
func Turned(c byte) byte {
	if small := Small(c); small != c {
		return small
	}
	return Great(c)
}

// Each goes by bytes: a text may hold ones that are no letters of any language.
func Each(content string, as func(byte) byte) string {
	bytes := []byte(content)
	for i, c := range bytes {
		bytes[i] = as(c)
	}
	return string(bytes)
}

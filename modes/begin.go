package modes

// begin begins Insert in the cursor's line.
func (n normal) begin(key byte) outcome {
	line := n.line()
	switch key {
	case 'a':
		return n.insertAt(min(n.at+1, line[1]))
	case 'I':
		return n.insertAt(n.text.Indent(line)[1])
	case 'A':
		return n.insertAt(line[1])
	}
	return n.insertAt(n.at)
}

// openLine begins Insert in a new line, which is as deep as the cursor's.
func (n normal) openLine(key byte) outcome {
	line := n.line()
	blanks := n.text.Of(n.text.Indent(line))
	place, bytes, end := line[1], "\n"+blanks, line[1]+1+len(blanks)
	if key == 'O' {
		place, bytes, end = line[0], blanks+"\n", line[0]+len(blanks)
	}
	if !n.write(place, bytes) {
		return failed
	}
	return n.insertAt(end)
}

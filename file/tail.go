package file

const (
	// TailLength is how many bytes a file has behind its footer.
	TailLength = 2 + len(mark)
	// LeastSize is what a file has beside its pages and its footer.
	LeastSize = len(mark) + TailLength
)

// ReadTail answers the length of the footer of a file of that size; the bool is false if the tail is malformed.
func ReadTail(tail []byte, size int) (int, bool) {
	if len(tail) != TailLength || string(tail[2:]) != mark {
		return 0, false
	}
	length := int(tail[0])<<8 | int(tail[1])
	if length < 1 || length > size-LeastSize {
		return 0, false
	}
	return length, true
}

package wire

// Reader takes numbers off the front of bytes that may be anything. What was wrong once stays wrong, so that it is enough to ask Right at the end.
type Reader struct {
	left  []byte
	wrong bool
}

// NewReader answers a Reader of data, which it does not change.
func NewReader(data []byte) *Reader {
	return &Reader{left: data}
}

// Right tells whether all that was taken was there and as it should be, and nothing is left.
func (r *Reader) Right() bool {
	return !r.wrong && len(r.left) == 0
}

// Byte takes one byte.
func (r *Reader) Byte() byte {
	if len(r.left) == 0 {
		r.wrong = true
		return 0
	}
	b := r.left[0]
	r.left = r.left[1:]
	return b
}

// Text takes n bytes, n being 0 or more.
func (r *Reader) Text(n int) string {
	if n > len(r.left) {
		r.wrong = true
		return ""
	}
	text := string(r.left[:n])
	r.left = r.left[n:]
	return text
}

// Sum takes a sum.
func (r *Reader) Sum() uint32 {
	sum := uint32(0)
	for range 4 {
		sum = sum<<8 | uint32(r.Byte())
	}
	return sum
}

// Number takes a varint of a number from least to most. If it is none such, the answer is least: whoever counts by it goes no further than the bounds allow.
func (r *Reader) Number(least, most int) int {
	n, short := r.varint()
	if !short || n < least || n > most {
		r.wrong = true
		return least
	}
	return n
}

// varint takes a varint; the bool is false if it is not in its shortest form, or does not fit an int.
func (r *Reader) varint() (int, bool) {
	n := 0
	for shift := 0; shift < 63; shift += 7 {
		b := r.Byte()
		n |= int(b%128) << shift
		if b < 128 {
			// Behind other bytes a 0 adds nothing, and the varint would be shorter without it.
			return n, b > 0 || shift == 0
		}
	}
	return 0, false
}

// Package wire: the numbers of a file as bytes.
package wire

// AppendVarint adds the varint of n, which is 0 or more.
func AppendVarint(to []byte, n int) []byte {
	for n >= 128 {
		to = append(to, byte(n%128+128))
		n /= 128
	}
	return append(to, byte(n))
}

// AppendSum adds the sum of data, the highest byte first.
func AppendSum(to, data []byte) []byte {
	sum := Sum(data)
	return append(to, byte(sum>>24), byte(sum>>16), byte(sum>>8), byte(sum))
}

// AppendPair adds n, which is below 65536, in two bytes, the higher first.
func AppendPair(to []byte, n int) []byte {
	return append(to, byte(n>>8), byte(n))
}

// Sum answers the sum of data.
func Sum(data []byte) uint32 {
	sum := uint32(2166136261)
	for _, b := range data {
		sum = (sum ^ uint32(b)) * 16777619
	}
	return sum
}

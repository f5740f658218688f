package table

const (
	bits = 7         // so many of a number's bits are in each of its bytes
	more = 1 << bits // is set in each of its bytes but the last one
	low  = more - 1  // the bits of the number

	// maxBytes is how many bytes of a number are read. What a plan that is well has takes fewer, and sums of what is read don't go around.
	maxBytes = 4
)

// appendNumbers puts the numbers' bytes behind b's. None of them is below 0.
func appendNumbers(b []byte, l ...int64) []byte {
	for _, n := range l {
		for ; n > low; n >>= bits {
			b = append(b, more|byte(n&low))
		}
		b = append(b, byte(n))
	}
	return b
}

// Package word is layer 1: numbers of 32 bits. See shared/doc/01-word.md.
package word

// The widths, in bits, that Extend and Fits take at most.
const (
	width   = 32
	maxBits = 62
)

// Wrap: n, less so many times 2^32 that it is a word.
func Wrap(n int) int {
	return int(int32(n))
}

// Add: the sum, brought round.
//
// Add, Sub and Mul bring round only what comes out: what an int loses beyond
// its 64 bits is a multiple of 2^32, so bringing a and b round first would
// change nothing.
func Add(a int, b int) int {
	return Wrap(a + b)
}

// Sub: the difference, brought round.
func Sub(a int, b int) int {
	return Wrap(a - b)
}

// Mul: the product, brought round.
func Mul(a int, b int) int {
	return Wrap(a * b)
}

// Div: the quotient, cut towards 0, and what is left over; false, if b is 0.
//
// Unlike a sum, a quotient hangs on more than its operands' lowest bits, so
// these are brought round first. The quotient is brought round too, for the
// least word by -1 gives 2^31, which is no word; what is left over always is.
func Div(a int, b int) (int, int, bool) {
	a, b = Wrap(a), Wrap(b)
	if b == 0 {
		return 0, 0, false
	}
	return Wrap(a / b), a % b, true
}

// Fits: is n, as it is, a number of so many bits?
func Fits(n int, bits int) bool {
	if bits < 1 || bits > maxBits {
		return false
	}
	half := 1 << (bits - 1)
	return -half <= n && n < half
}

// Extend: the number that fits so many bits, whose lowest ones are n's.
//
// The two shifts bring the highest of these bits to a word's sign and back.
func Extend(n int, bits int) int {
	if bits < 1 || bits > width {
		return 0
	}
	unused := width - bits
	return int(int32(n) << unused >> unused)
}

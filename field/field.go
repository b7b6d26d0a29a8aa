// Package field: the field of the 256 numbers of a byte. Its sum, and so its difference too, is xor.
package field

// remainder is x^8 modulo x^8 + x^4 + x^3 + x^2 + 1.
const remainder = 0x1d

// Mul is the product of a and b.
func Mul(a byte, b byte) byte {
	var product byte
	for ; b != 0; b >>= 1 {
		if b&1 != 0 {
			product ^= a
		}
		a = timesX(a)
	}
	return product
}

func timesX(a byte) byte {
	if a&0x80 != 0 {
		return a<<1 ^ remainder
	}
	return a << 1
}

// Inverse is the number whose product with a is 1. There is none for 0: the answer is 0 then.
func Inverse(a byte) byte {
	// The power 255 of each number but 0 is 1, so the power 254 is the inverse: 254 is 2 + 4 + .. + 128.
	inverse, power := byte(1), a
	for range 7 {
		power = Mul(power, power)
		inverse = Mul(inverse, power)
	}
	return inverse
}

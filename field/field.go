// Package field: the product and the inverse of the numbers 0 to 255. (Their sum is Go's ^.)
package field

// eighth stands for x^8: x^4 + x^3 + x^2 + 1. Higher powers follow from it, one factor x at a time.
const eighth = 29

// Mul tells the product of a and b.
func Mul(a byte, b byte) byte {
	product := byte(0)
	for bit := 0; bit < 8; bit++ {
		if b&1 == 1 {
			product ^= a
		}
		a = timesX(a)
		b >>= 1
	}
	return product
}

// Inverse tells the inverse of a; of 0, which has none, it tells 0.
func Inverse(a byte) byte {
	// There are 255 numbers other than 0, so a^255 is 1 and a^254 the inverse; 254 is 2 + 4 + .. + 128.
	inverse := byte(1)
	power := a
	for i := 0; i < 7; i++ {
		power = Mul(power, power)
		inverse = Mul(inverse, power)
	}
	return inverse
}

func timesX(a byte) byte {
	if a&128 != 0 {
		return a<<1 ^ eighth
	}
	return a << 1
}

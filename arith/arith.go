// Package arith is layer 1, numbers that don't go around: see shared/doc/01-arith.md.
package arith

// Add is the sum, and whether it is an int64.
func Add(a, b int64) (int64, bool) {
	sum := a + b
	// A sum that went around lies on the wrong side of a.
	if (sum > a) != (b > 0) {
		return 0, false
	}
	return sum, true
}

// Mul is the product, and whether it is an int64.
func Mul(a, b int64) (int64, bool) {
	if a == 0 || b == 0 {
		return 0, true
	}
	product := a * b
	// The least number by -1 is the one product that went around and divides back; its sign gives it away.
	negative := (a < 0) != (b < 0)
	if product/b != a || (product < 0) != negative {
		return 0, false
	}
	return product, true
}

// Gcd is the greatest number that both are divisible by. A number below 1 doesn't count: then it is the other one, or 0.
func Gcd(a, b int64) int64 {
	a, b = max(a, 0), max(b, 0)
	for b != 0 {
		a, b = b, a%b
	}
	return a
}

// Lcm is the least number from 1 on that is divisible by all, and whether there is one that is an int64.
func Lcm(l ...int64) (int64, bool) {
	lcm := int64(1)
	for _, n := range l {
		if n < 1 {
			return 0, false
		}
		// Divided first, so that nothing goes around but what is too great itself.
		product, ok := Mul(lcm/Gcd(lcm, n), n)
		if !ok {
			return 0, false
		}
		lcm = product
	}
	return lcm, true
}

// Floor is the quotient, rounded down, and what is left, from 0 on, below d; 0, 0 of d below 1.
func Floor(n, d int64) (int64, int64) {
	if d < 1 {
		return 0, 0
	}
	quotient, left := n/d, n%d
	// Go rounds toward 0, which is up for numbers below it.
	if left < 0 {
		return quotient - 1, left + d
	}
	return quotient, left
}

// Package extent is layer 1: checked sizes (shared/doc/01-extent.md).
package extent

// Mul returns a * b and true if neither is negative and the product is at most limit.
func Mul(a, b, limit int) (int, bool) {
	if a < 0 || b < 0 || limit < 0 {
		return 0, false
	}
	// The product may not fit in an int, so the limit is divided instead.
	if b > 0 && a > limit/b {
		return 0, false
	}
	return a * b, true
}

// Sum returns the sum of l and true if no number is negative and the sum is at most limit.
func Sum(l []int, limit int) (int, bool) {
	if limit < 0 {
		return 0, false
	}
	sum := 0
	for _, n := range l {
		// limit - sum is never negative here, while sum + n may not fit in an int.
		if n < 0 || n > limit-sum {
			return 0, false
		}
		sum += n
	}
	return sum, true
}

// Ceil returns a / b rounded up, and 0 if a is negative or b is less than 1.
func Ceil(a, b int) int {
	if a < 0 || b < 1 {
		return 0
	}
	// a + b - 1 may not fit in an int, so the remainder decides.
	if a%b > 0 {
		return a/b + 1
	}
	return a / b
}

// Align returns the least multiple of k that is at least n, and true, if n is not negative,
// k is at least 1 and the multiple is at most limit.
func Align(n, k, limit int) (int, bool) {
	if n < 0 || k < 1 {
		return 0, false
	}
	return Mul(Ceil(n, k), k, limit)
}

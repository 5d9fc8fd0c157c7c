// Package whole has the integer arithmetic that several layers share. All divisors are positive.
package whole

// Floor returns a / b, rounded down.
func Floor(a, b int) int {
	if a%b < 0 {
		return a/b - 1
	}
	return a / b
}

// Ceil returns a / b, rounded up.
func Ceil(a, b int) int {
	if a%b > 0 {
		return a/b + 1
	}
	return a / b
}

// HalfUp returns a / b, rounded to the nearest integer, and exact halves to the greater one.
func HalfUp(a, b int) int {
	return Floor(2*a+b, 2*b)
}

// Abs returns the absolute value of a number.
func Abs(n int) int {
	return max(n, -n)
}

// Passes returns by how much a number is greater than high, or less than low, whichever is more; 0 if it is neither.
func Passes(n, low, high int) int {
	return max(0, n-high, low-n)
}

// Fold turns a number into one that is not negative: small ones of both signs become small.
func Fold(n int) uint64 {
	return uint64(n)<<1 ^ uint64(n>>63)
}

// Unfold returns the number that Fold turns into u.
func Unfold(u uint64) int {
	return int(u>>1) ^ -int(u&1)
}

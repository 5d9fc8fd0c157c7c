// Package ratio is layer 1: exact rational numbers that are not negative, as which all distances are given.
package ratio

import (
	"cmp"
	"math/bits"
	"strconv"
	"strings"

	"shapesearch/api"
)

// wide is a number of 128 bits: products of numerators and denominators do not fit into an int.
type wide struct{ high, low uint64 }

// Valid reports whether a ratio is within the limits and in lowest terms.
func Valid(a api.Ratio) bool {
	return inRange(a) && divisor(a.Num, a.Den) == 1
}

// Make returns num / den in lowest terms.
func Make(num, den int) (api.Ratio, api.Errno) {
	if num < 0 || den < 1 {
		return api.Ratio{}, api.ErrRange
	}
	common := divisor(num, den)
	a := api.Ratio{Num: num / common, Den: den / common}
	if !inRange(a) {
		return api.Ratio{}, api.ErrRange
	}
	return a, api.OK
}

// Cmp compares two ratios; invalid ones are not compared, which gives 0.
func Cmp(a, b api.Ratio) int {
	if !Valid(a) || !Valid(b) {
		return 0
	}
	left, right := product(a.Num, b.Den), product(b.Num, a.Den)
	return cmp.Or(cmp.Compare(left.high, right.high), cmp.Compare(left.low, right.low))
}

// Less reports whether both ratios are valid and a is less than b.
func Less(a, b api.Ratio) bool {
	return Cmp(a, b) < 0
}

// Least returns the index of the first one of the least ratios, or -1 if there is none or one is not valid.
func Least(l []api.Ratio) int {
	least := -1
	for i, a := range l {
		if !Valid(a) {
			return -1
		}
		if least < 0 || Less(a, l[least]) {
			least = i
		}
	}
	return least
}

// Add returns the sum in lowest terms.
func Add(a, b api.Ratio) (api.Ratio, api.Errno) {
	if !Valid(a) || !Valid(b) {
		return api.Ratio{}, api.ErrRange
	}
	// Only a divisor of the common divisor of both denominators can be cancelled
	// from this sum, so numbers of 64 bits suffice for the divisors.
	common := divisor(a.Den, b.Den)
	num := plus(product(a.Num, b.Den/common), product(b.Num, a.Den/common))
	cancel := divisor(int(bits.Rem64(num.high, num.low, uint64(common))), common)
	if num.high >= uint64(cancel) {
		return api.Ratio{}, api.ErrLimit
	}
	top, _ := bits.Div64(num.high, num.low, uint64(cancel))
	den := product(a.Den/common, b.Den/cancel)
	if top > api.MaxNum || den.high > 0 || den.low > api.MaxDen {
		return api.Ratio{}, api.ErrLimit
	}
	return api.Ratio{Num: int(top), Den: int(den.low)}, api.OK
}

// Floor returns the greatest integer that is not greater than a.
func Floor(a api.Ratio) int {
	if !Valid(a) {
		return 0
	}
	return a.Num / a.Den
}

// Ceil returns the least integer that is not less than a.
func Ceil(a api.Ratio) int {
	if !Valid(a) || a.Num%a.Den == 0 {
		return Floor(a)
	}
	return Floor(a) + 1
}

// Format returns the text of a valid ratio.
func Format(a api.Ratio) string {
	if !Valid(a) {
		return ""
	}
	if a.Den == 1 {
		return strconv.Itoa(a.Num)
	}
	return strconv.Itoa(a.Num) + "/" + strconv.Itoa(a.Den)
}

// Parse returns the valid ratio with a text.
func Parse(s string) (api.Ratio, api.Errno) {
	num, den, divided := strings.Cut(s, "/")
	if !divided {
		den = "1"
	}
	a := api.Ratio{Num: number(num), Den: number(den)}
	// A valid ratio has one text, which excludes signs, leading zeros and "/1".
	if !Valid(a) || Format(a) != s {
		return api.Ratio{}, api.ErrForm
	}
	return a, api.OK
}

func inRange(a api.Ratio) bool {
	return a.Num >= 0 && a.Num <= api.MaxNum && a.Den >= 1 && a.Den <= api.MaxDen
}

// divisor returns the greatest common divisor of two numbers that are not negative.
func divisor(a, b int) int {
	for b != 0 {
		a, b = b, a%b
	}
	return a
}

func product(a, b int) wide {
	high, low := bits.Mul64(uint64(a), uint64(b))
	return wide{high, low}
}

func plus(a, b wide) wide {
	low, carry := bits.Add64(a.low, b.low, 0)
	high, _ := bits.Add64(a.high, b.high, carry)
	return wide{high, low}
}

func number(s string) int {
	n, err := strconv.Atoi(s)
	if err != nil {
		return -1
	}
	return n
}

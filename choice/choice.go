// Package choice chooses starts that are not near each other.
package choice

import "slices"

// Apart goes through starts, and returns the indices of those that are at least zone away from all that were taken
// before, until there are count of them. Starts are not negative.
func Apart(starts []int, count, zone int) []int {
	var taken []int
	for i, start := range starts {
		if len(taken) == count {
			break
		}
		near := func(other int) bool { return Near(start, starts[other], zone) }
		if !slices.ContainsFunc(taken, near) {
			taken = append(taken, i)
		}
	}
	return taken
}

// Near reports whether two starts are less than zone away from each other.
func Near(a, b, zone int) bool {
	return a-b < zone && b-a < zone
}

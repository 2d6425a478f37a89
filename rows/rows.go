// Package rows compares and sorts rows of whole numbers of any width, and makes them least.
package rows

import (
	"cmp"
	"slices"
)

// Number is what rows are made of.
type Number interface {
	~int | ~int8 | ~int16 | ~int32 | ~int64 | ~uint | ~uint8 | ~uint16 | ~uint32 | ~uint64
}

// Compare is below 0 if a comes ahead of b, above 0 if it comes behind it: by the first number that differs, else the shorter row is ahead.
func Compare[R ~[]N, N Number](a, b R) int {
	for i := range min(len(a), len(b)) {
		if a[i] != b[i] {
			return cmp.Compare(a[i], b[i])
		}
	}
	return cmp.Compare(len(a), len(b))
}

// Sort puts rows into their order.
func Sort[R ~[]N, N Number](all []R) { slices.SortFunc(all, Compare[R]) }

// Lower makes a row the least one of itself and another, which is as long.
func Lower[R ~[]N, N Number](row, other R) {
	if Compare(other, row) < 0 {
		copy(row, other)
	}
}

// Orders are all the orders in which the numbers below a size can stand, sorted: in the first one they stand as they are.
func Orders[N Number](size N) [][]N {
	all := [][]N{nil}
	for number := N(0); number < size; number++ {
		var longer [][]N
		for _, order := range all {
			for at := range len(order) + 1 {
				longer = append(longer, slices.Insert(slices.Clone(order), at, number))
			}
		}
		all = longer
	}
	Sort(all)
	return all
}

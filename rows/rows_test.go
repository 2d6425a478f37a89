package rows_test

import (
	"math"
	"slices"
	"testing"

	"orbits/rows"
)

// wantSorted has rows in their order, no two the same.
func wantSorted[N rows.Number](t *testing.T, all ...[]N) {
	t.Helper()
	for i, a := range all {
		for j, b := range all {
			if got := rows.Compare(a, b); got < 0 != (i < j) || got > 0 != (i > j) {
				t.Errorf("Compare(%v, %v) = %d", a, b, got)
			}
			low := slices.Clone(a)
			if len(a) == len(b) {
				rows.Lower(low, b)
				if !slices.Equal(low, all[min(i, j)]) || !slices.Equal(b, all[j]) {
					t.Errorf("Lower(%v, %v) makes %v", a, b, low)
				}
			}
		}
	}
	mixed := slices.Clone(all)
	slices.Reverse(mixed)
	rows.Sort(mixed)
	if !slices.EqualFunc(mixed, all, slices.Equal[[]N]) {
		t.Errorf("Sort makes %v, want %v", mixed, all)
	}
}

func TestRowsOfEachWidth(t *testing.T) {
	wantSorted(t, []uint8{}, []uint8{0}, []uint8{0, 0}, []uint8{0, 255}, []uint8{1}, []uint8{1, 0, 0}, []uint8{1, 2}, []uint8{255, 0})
	wantSorted(t, []int8{-128, 127}, []int8{-1, 0}, []int8{0, -128}, []int8{0, 127}, []int8{127, -128})
	wantSorted(t, []uint16{255, 256}, []uint16{256, 0}, []uint16{65535, 0})
	wantSorted(t, []int32{math.MinInt32}, []int32{-1, 5}, []int32{math.MaxInt32})
	wantSorted(t, []int{math.MinInt, 0}, []int{0, math.MaxInt}, []int{math.MaxInt, math.MinInt})
	wantSorted(t, []uint64{0, 1 << 63}, []uint64{1, 0}, []uint64{math.MaxUint64})
}

func TestLowerKeepsRowsApart(t *testing.T) {
	row, other := []uint8{2, 0}, []uint8{1, 9}
	rows.Lower(row, other)
	other[0] = 7
	if !slices.Equal(row, []uint8{1, 9}) {
		t.Errorf("the row is %v", row)
	}
}

func wantOrders[N rows.Number](t *testing.T, size N, want ...[]N) {
	t.Helper()
	if got := rows.Orders(size); !slices.EqualFunc(got, want, slices.Equal[[]N]) {
		t.Errorf("Orders(%d) = %v, want %v", size, got, want)
	}
}

func TestOrders(t *testing.T) {
	wantOrders(t, 0, []int{})
	wantOrders(t, 1, []int{0})
	wantOrders(t, uint8(2), []uint8{0, 1}, []uint8{1, 0})
	wantOrders(t, 3, []int{0, 1, 2}, []int{0, 2, 1}, []int{1, 0, 2}, []int{1, 2, 0}, []int{2, 0, 1}, []int{2, 1, 0})
	count := 1
	for size := int64(1); size <= 6; size++ {
		count *= int(size)
		all := rows.Orders(size)
		if len(all) != count || !slices.IsSortedFunc(all, slices.Compare[[]int64]) {
			t.Errorf("Orders(%d) has %d orders, want %d", size, len(all), count)
		}
		for i, order := range all[1:] {
			if slices.Equal(order, all[i]) {
				t.Errorf("Orders(%d) has %v twice", size, order)
			}
		}
	}
}

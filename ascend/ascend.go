// Package ascend has what several layers ask of ascending lists.
package ascend

import "cmp"

// Strictly reports whether each element of a list is greater than the one before.
func Strictly[T cmp.Ordered](l []T) bool {
	for i := range l {
		if i > 0 && l[i-1] >= l[i] {
			return false
		}
	}
	return true
}

// Numbers reports whether numbers ascend strictly, and are from 0 on and less than n.
func Numbers(l []int, n int) bool {
	return Strictly(l) && (len(l) == 0 || l[0] >= 0 && l[len(l)-1] < n)
}

// Common returns how many elements two strictly ascending lists have in common.
func Common[T cmp.Ordered](a, b []T) int {
	n := 0
	for len(a) > 0 && len(b) > 0 {
		switch cmp.Compare(a[0], b[0]) {
		case -1:
			a = a[1:]
		case 1:
			b = b[1:]
		default:
			n++
			a, b = a[1:], b[1:]
		}
	}
	return n
}

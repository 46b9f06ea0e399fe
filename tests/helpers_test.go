package tests

import (
	"math"
	"slices"
	"strconv"
)

// The helpers know nothing of package impl, so that the tests compare it with something else.

// validSets returns all valid member sets; the index of a set is its bit mask.
func validSets() [][]int {
	sets := make([][]int, 64)
	for mask := range sets {
		for m := 1; m <= 6; m++ {
			if mask>>(m-1)&1 == 1 {
				sets[mask] = append(sets[mask], m)
			}
		}
	}
	return sets
}

// isValidSet is the definition of a valid member set, pair by pair.
func isValidSet(s []int) bool {
	for i, m := range s {
		if m < 1 || m > 6 || i > 0 && s[i-1] >= m {
			return false
		}
	}
	return true
}

// shortSlices returns all slices of at most three elements from -2 to 8.
func shortSlices() [][]int {
	all := [][]int{nil}
	level := [][]int{nil}
	for range 3 {
		var next [][]int
		for _, s := range level {
			for m := -2; m <= 8; m++ {
				next = append(next, append(slices.Clone(s), m))
			}
		}
		all = append(all, next...)
		level = next
	}
	return all
}

// invalidSets returns slices that are not member sets, with those that the document names first.
func invalidSets() [][]int {
	sets := [][]int{
		{3, 1}, {1, 1}, {0}, {-1}, {7},
		{math.MinInt}, {math.MaxInt}, {math.MinInt, math.MaxInt},
		// Members that look valid when only their low bits are kept.
		{1, 257}, {1, 9}, {9}, {33}, {65}, {129}, {256}, {257}, {1 - 256}, {1, math.MinInt + 2},
		{0, 1, 2, 3, 4, 5, 6}, {1, 2, 3, 4, 5, 6, 7}, {1, 2, 3, 4, 5, 6, 6}, {1, 2, 3, 4, 6, 5},
		{6, 5, 4, 3, 2, 1}, {1, 2, 3, 3, 4, 5}, {2, 1, 3}, {1, 3, 2}, {1, 2, 1}, {1, 2, 3, 4, 5, 0}, {1, 2, 3, 4, 5, -6},
		slices.Repeat([]int{1}, 1000), ascendingFrom(1, 1000), ascendingFrom(-500, 1000),
	}
	for _, s := range shortSlices() {
		if !isValidSet(s) {
			sets = append(sets, s)
		}
	}
	return sets
}

func ascendingFrom(first int, length int) []int {
	s := make([]int, length)
	for i := range s {
		s[i] = first + i
	}
	return s
}

// oddMembers returns numbers that are not members.
func oddMembers() []int {
	return []int{0, -1, -2, -63, -64, 7, 8, 9, 10, 33, 64, 65, 66, 257, 258, math.MinInt, math.MinInt + 1, math.MaxInt}
}

// textOf is the textual form of a valid set.
func textOf(s []int) string {
	text := "{"
	for i, m := range s {
		if i > 0 {
			text += ","
		}
		text += strconv.Itoa(m)
	}
	return text + "}"
}

// withSpare returns s as a slice of a longer one, and the longer one, to show what is written behind the length.
func withSpare(s []int) ([]int, []int) {
	long := append(slices.Clone(s), 91, 92, 93, 94, 95, 96, 97, 98)
	return long[:len(s)], long
}

// scribble overwrites a slice up to its capacity.
func scribble(s []int) {
	s = s[:cap(s)]
	for i := range s {
		s[i] = -77
	}
}

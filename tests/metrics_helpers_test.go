package tests

import (
	"math"
	"slices"
)

// largestMember returns the largest member of a quorum of f, or 0 if f is empty.
func largestMember(f [][]int) int {
	most := 0
	for _, quorum := range f {
		most = max(most, slices.Max(quorum))
	}
	return most
}

// remaining returns the sets that remain of the first n members when some r of them fail.
func remaining(r int, n int) [][]int {
	return exactly(n-r, n)
}

// resilienceIn is the definition of the resilience: it tries all sets of failed members, the small ones first.
func resilienceIn(f [][]int, n int) int {
	up := upsetOf(f)
	for r := range n + 1 {
		if slices.ContainsFunc(remaining(r, n), func(s []int) bool { return !up[maskOf(s)] }) {
			return r - 1
		}
	}
	return n
}

// availabilityIn is the definition of the availability, set by set.
func availabilityIn(f [][]int, n int) int {
	up := upsetOf(f)
	count := 0
	for mask := range 1 << n {
		if up[mask] {
			count++
		}
	}
	return count
}

// measuredFamilies returns quorum systems that are not empty: all on four members, and wide ones.
func measuredFamilies() [][][]int {
	return nonempty(someFamilies())
}

// emptyFamilies returns both forms of the empty quorum system.
func emptyFamilies() [][][]int {
	return [][][]int{nil, {}}
}

// oddCounts returns numbers of members that are out of range, some of which look valid when only their low bits are kept.
func oddCounts() []int {
	return []int{0, -1, -2, -3, -6, -63, -64, -250, -253, 7, 8, 9, 63, 64, 67, 131, 256, 259, 262, 1<<16 + 3, 1<<32 + 3, 1<<32 + 6, math.MinInt, math.MinInt + 3, math.MinInt + 6, math.MaxInt - 1, math.MaxInt}
}

// intersectionOf returns the members that are in every quorum, member by member.
func intersectionOf(f [][]int) []int {
	var common []int
	for m := 1; m <= 6; m++ {
		if !slices.ContainsFunc(f, func(quorum []int) bool { return !slices.Contains(quorum, m) }) {
			common = append(common, m)
		}
	}
	return common
}

// survivors returns the members that are not in failed.
func survivors(failed []int) []int {
	return validSets()[63-maskOf(failed)]
}

package tests

import (
	"math"
	"math/rand/v2"
	"slices"
)

// votesIn is the definition of the number of votes of a set, member by member.
func votesIn(w []int, s []int) int {
	votes := 0
	for i, count := range w {
		if slices.Contains(s, i+1) {
			votes += count
		}
	}
	return votes
}

func totalVotes(w []int) int {
	return votesIn(w, []int{1, 2, 3, 4, 5, 6})
}

// upsetOfVotes tells which sets have at least need votes.
func upsetOfVotes(w []int, need int) upset {
	var up upset
	for mask, s := range validSets() {
		up[mask] = votesIn(w, s) >= need
	}
	return up
}

// allAssignments returns all assignments of 0 to most votes to n members.
func allAssignments(n int, most int) [][]int {
	all := [][]int{nil}
	for range n {
		var longer [][]int
		for _, w := range all {
			for votes := range most + 1 {
				longer = append(longer, append(slices.Clone(w), votes))
			}
		}
		all = longer
	}
	return all
}

// edgeAssignments returns the assignments that the document names as limits, and those in which members have no votes.
func edgeAssignments() [][]int {
	all := [][]int{
		{1, 1, 2}, {5, 4, 3, 2, 1, 0}, {0, 1, 2, 3, 4, 5}, {3, 0, 0, 2, 0, 1}, {0, 0, 4, 0, 3, 3}, {9, 1, 1, 1, 1, 1}, {1, 1, 1, 1, 1, 9},
		{9, 8, 7, 6, 5, 4}, {0, 9, 0, 9, 0, 9}, {9, 0, 9, 0, 9, 0}, {2, 2, 2, 2, 2, 1}, {9, 9, 0, 0, 0, 0}, {0, 0, 0, 0, 9, 9},
	}
	for n := 1; n <= 6; n++ {
		all = append(all, slices.Repeat([]int{0}, n), slices.Repeat([]int{1}, n), slices.Repeat([]int{2}, n), slices.Repeat([]int{9}, n))
		for i := range n {
			alone, missing := slices.Repeat([]int{0}, n), slices.Repeat([]int{9}, n)
			alone[i], missing[i] = 9, 0
			all = append(all, alone, missing)
		}
	}
	return all
}

// assignments returns all assignments to at most two members, all small ones to three and four, the edge cases and random ones.
func assignments() [][]int {
	all := append(edgeAssignments(), allAssignments(1, 9)...)
	all = append(all, allAssignments(2, 9)...)
	all = append(all, allAssignments(3, 4)...)
	all = append(all, allAssignments(4, 2)...)
	all = append(all, allAssignments(6, 1)...)
	random := rand.New(rand.NewPCG(4, 46))
	for i := range 60 {
		w := make([]int, 1+i%6)
		for at := range w {
			w[at] = random.IntN(10)
		}
		all = append(all, w)
	}
	return all
}

// notAssignments returns slices that are not vote assignments.
func notAssignments() [][]int {
	all := [][]int{
		nil, {}, {1, 1, 1, 1, 1, 1, 1}, {0, 0, 0, 0, 0, 0, 0}, {1, 1, 1, 1, 1, 1, 0}, {9, 9, 9, 9, 9, 9, 9}, {1, 1, 1, 1, 1, 1, -1},
		slices.Repeat([]int{1}, 8), slices.Repeat([]int{0}, 64), slices.Repeat([]int{1}, 257), make([]int, 1<<16), slices.Repeat([]int{10}, 7),
		// The sums of these are in the range of valid ones.
		{-1, 2}, {2, -1}, {10, -1}, {-9, 9, 9}, {math.MaxInt, math.MinInt, 2}, {math.MinInt, math.MinInt, 3}, {math.MaxInt, math.MaxInt, 4},
	}
	for _, w := range [][]int{{1}, {0, 0}, {3, 2, 1}, {1, 1, 1, 1, 1, 1}, {9, 9, 9, 9, 9, 9}} {
		for i := range w {
			for _, votes := range oddVotes() {
				bad := slices.Clone(w)
				bad[i] = votes
				all = append(all, bad)
			}
		}
	}
	return all
}

// oddVotes returns numbers that are no number of votes, some of which look valid when only their low bits are kept.
func oddVotes() []int {
	return []int{-1, -2, -9, -10, 10, 11, 16, 99, 128, 255, 256, 257, -255, 1 << 16, 1<<32 + 1, -1 << 32, math.MinInt, math.MinInt + 1, math.MaxInt}
}

// oddNeeds returns requirements that no assignment can meet or that are not positive.
func oddNeeds() []int {
	return []int{0, -1, -2, -54, -255, 55, 56, 100, 256, 257, 1<<32 + 1, math.MinInt, math.MinInt + 1, math.MaxInt - 1, math.MaxInt}
}

package tests

import (
	"math/rand/v2"
	"slices"
)

// upset tells by mask which sets have a quorum. It says all there is to say of a quorum system.
type upset [64]bool

func upsetOf(f [][]int) upset {
	var up upset
	for mask, s := range validSets() {
		up[mask] = slices.ContainsFunc(f, func(quorum []int) bool { return containsAll(s, quorum) })
	}
	return up
}

func containsAll(s []int, subset []int) bool {
	return !slices.ContainsFunc(subset, func(m int) bool { return !slices.Contains(s, m) })
}

// quorums returns the minimal sets of an upset: those that leave it when any one member is taken away.
func (up upset) quorums() [][]int {
	var f [][]int
	for mask, s := range validSets() {
		minimal := up[mask]
		for _, m := range s {
			minimal = minimal && !up[mask-1<<(m-1)]
		}
		if minimal {
			f = append(f, s)
		}
	}
	return f
}

// meeting returns which sets have a common member with every quorum: those whose complement has no quorum.
func (up upset) meeting() upset {
	var met upset
	for mask := range met {
		met[mask] = !up[63-mask]
	}
	return met
}

func (up upset) or(other upset) upset {
	for mask := range up {
		up[mask] = up[mask] || other[mask]
	}
	return up
}

func (up upset) and(other upset) upset {
	for mask := range up {
		up[mask] = up[mask] && other[mask]
	}
	return up
}

func sameFamily(f [][]int, g [][]int) bool {
	return slices.EqualFunc(f, g, slices.Equal[[]int])
}

func cloneFamily(f [][]int) [][]int {
	var clone [][]int
	for _, s := range f {
		clone = append(clone, slices.Clone(s))
	}
	return clone
}

// familiesUpTo returns all quorum systems on the members 1 to n, the empty one first.
func familiesUpTo(n int) [][][]int {
	all := [][][]int{nil}
	for _, quorum := range validSets()[1 : 1<<n] {
		for _, f := range all {
			if !slices.ContainsFunc(f, func(earlier []int) bool { return containsAll(quorum, earlier) }) {
				all = append(all, append(cloneFamily(f), slices.Clone(quorum)))
			}
		}
	}
	return all
}

// exactly returns the sets of k members from 1 to n, by ascending masks.
func exactly(k int, n int) [][]int {
	var f [][]int
	for _, s := range validSets()[:1<<n] {
		if len(s) == k {
			f = append(f, s)
		}
	}
	return f
}

// largestFamily has 20 quorums, and no quorum system has more.
func largestFamily() [][]int {
	return exactly(3, 6)
}

// wideFamilies returns quorum systems on six members: all single quorums, all thresholds, one of every size, and random ones.
func wideFamilies() [][][]int {
	all := [][][]int{nil}
	for _, quorum := range validSets()[1:] {
		all = append(all, [][]int{quorum})
	}
	for k := 1; k <= 6; k++ {
		all = append(all, exactly(k, 6))
	}
	for size := 2; size < 20; size++ {
		all = append(all, largestFamily()[:size])
	}
	random := rand.New(rand.NewPCG(3, 31))
	for range 30 {
		all = append(all, upsetOf(randomSets(random, 1+random.IntN(12))).quorums(), randomLayer(random))
	}
	return all
}

func randomSets(random *rand.Rand, count int) [][]int {
	var sets [][]int
	for range count {
		sets = append(sets, validSets()[1+random.IntN(63)])
	}
	return sets
}

// randomLayer takes many sets of three members and some larger ones, for a system of many quorums.
func randomLayer(random *rand.Rand) [][]int {
	sets := randomSets(random, 2)
	share := 2 + random.IntN(5)
	for _, s := range exactly(3, 6) {
		if random.IntN(share) > 0 {
			sets = append(sets, s)
		}
	}
	sets = slices.DeleteFunc(sets, func(s []int) bool { return len(s) < 3 })
	return upsetOf(sets).quorums()
}

// someFamilies returns all quorum systems on four members, and the wide ones.
func someFamilies() [][][]int {
	return append(familiesUpTo(4), wideFamilies()...)
}

// fewFamilies returns quorum systems for the tests that combine three of them.
func fewFamilies() [][][]int {
	few := familiesUpTo(3)
	for i, f := range wideFamilies() {
		if i%9 == 0 {
			few = append(few, f)
		}
	}
	return append(few, largestFamily(), [][]int{{1, 2, 3, 4, 5, 6}}, exactly(1, 6))
}

// isFamily is the definition of a quorum system, pair by pair.
func isFamily(f [][]int) bool {
	if len(f) > 20 {
		return false
	}
	for i, s := range f {
		if len(s) == 0 || !isValidSet(s) || i > 0 && maskOf(f[i-1]) >= maskOf(s) {
			return false
		}
		for j, other := range f {
			if i != j && containsAll(s, other) {
				return false
			}
		}
	}
	return true
}

func maskOf(s []int) int {
	mask := 0
	for _, m := range s {
		mask += 1 << (m - 1)
	}
	return mask
}

// notFamilies returns lists that are not quorum systems, with the faults that the document names first.
func notFamilies() [][][]int {
	all := [][][]int{
		{{}}, {nil}, {nil, {1}}, {{1}, nil}, {{1}, {}, {2}},
		{{2}, {1}}, {{1, 3}, {1, 2}}, {{1, 2}, {2, 3}, {1, 3}}, {{4}, {1, 2, 3}},
		{{1}, {1}}, {{1, 2}, {1, 2}}, {{1}, {2}, {2}}, {{1}, {2}, {1}},
		{{1}, {1, 2}}, {{1, 2}, {1}}, {{2}, {1, 2}}, {{1}, {2}, {1, 2}}, {{1, 2}, {3}, {1, 2, 4}}, {{1}, {2, 3}, {1, 2, 3, 4, 5, 6}},
		append(largestFamily(), []int{4, 5, 6}), append(largestFamily(), []int{1, 2, 3, 4, 5, 6}), append([][]int{{1, 2}}, largestFamily()...),
		append(largestFamily(), []int{7}), validSets(), validSets()[1:], slices.Repeat([][]int{{1}}, 1000), make([][]int, 1<<16),
	}
	for _, s := range invalidSets() {
		all = append(all, [][]int{s}, [][]int{{1}, s}, [][]int{s, {6}}, [][]int{{1}, s, {6}})
	}
	return all
}

package tests

import "slices"

// pairOfFamilies is two quorum systems and the common members of each pair of their quorums, at the index of the pair.
type pairOfFamilies struct {
	f      [][]int
	g      [][]int
	common [][]int
}

// newPair is the definition of the common members, member by member.
func newPair(f [][]int, g [][]int) pairOfFamilies {
	pair := pairOfFamilies{f: f, g: g}
	for _, a := range f {
		for _, b := range g {
			var common []int
			for m := 1; m <= 6; m++ {
				if slices.Contains(a, m) && slices.Contains(b, m) {
					common = append(common, m)
				}
			}
			pair.common = append(pair.common, common)
		}
	}
	return pair
}

func (pair pairOfFamilies) intersect() bool {
	return !slices.ContainsFunc(pair.common, func(common []int) bool { return len(common) == 0 })
}

// certificate names the common member that choose takes of each pair, and 0 where there is none.
func (pair pairOfFamilies) certificate(choose func(common []int) int) []int {
	cert := make([]int, len(pair.common))
	for i, common := range pair.common {
		if len(common) > 0 {
			cert[i] = choose(common)
		}
	}
	return cert
}

func smallest(common []int) int {
	return common[0]
}

func largest(common []int) int {
	return common[len(common)-1]
}

// firstDisjoint searches by the index in f and then by the index in g.
func (pair pairOfFamilies) firstDisjoint() ([]int, []int, bool) {
	at := 0
	for _, a := range pair.f {
		for _, b := range pair.g {
			if len(pair.common[at]) == 0 {
				return a, b, true
			}
			at++
		}
	}
	return nil, nil, false
}

// transversalsOf returns the minimal sets that have a common member with every quorum of f, which is not empty.
func transversalsOf(f [][]int) [][]int {
	return upsetOf(f).meeting().quorums()
}

// wideIntersectingPairs returns quorum systems of many sizes that intersect.
func wideIntersectingPairs() []pairOfFamilies {
	var pairs []pairOfFamilies
	for _, f := range nonempty(append(familiesUpTo(4), wideFamilies()...)) {
		transversals := transversalsOf(f)
		pairs = append(pairs, newPair(f, transversals), newPair(transversals, f), newPair(f, [][]int{{1, 2, 3, 4, 5, 6}}), newPair([][]int{{1, 2, 3, 4, 5, 6}}, f))
		for size := 1; size < len(transversals); size += 3 {
			pairs = append(pairs, newPair(f, transversals[:size]))
		}
	}
	for k := 4; k <= 6; k++ {
		pairs = append(pairs, newPair(largestFamily(), exactly(k, 6)), newPair(exactly(k, 6), largestFamily()), newPair(exactly(4, 6), exactly(k, 6)))
	}
	return pairs
}

// familyPairs returns pairs of all quorum systems on three members, of all single quorums, of wide ones, and those that intersect.
func familyPairs() []pairOfFamilies {
	pairs := wideIntersectingPairs()
	few := fewFamilies()
	for _, f := range few {
		for _, g := range few {
			pairs = append(pairs, newPair(f, g))
		}
	}
	for _, a := range validSets()[1:] {
		for _, b := range validSets()[1:] {
			pairs = append(pairs, newPair([][]int{a}, [][]int{b}))
		}
	}
	wide := wideFamilies()
	for i, f := range wide {
		for k, g := range wide {
			if (i+k)%5 == 0 {
				pairs = append(pairs, newPair(f, g))
			}
		}
	}
	return pairs
}

func intersectingPairs() []pairOfFamilies {
	return slices.DeleteFunc(familyPairs(), func(pair pairOfFamilies) bool { return !pair.intersect() })
}

func disjointPairs() []pairOfFamilies {
	return slices.DeleteFunc(familyPairs(), pairOfFamilies.intersect)
}

// replacedAt returns cert with another entry at one index.
func replacedAt(cert []int, index int, entry int) []int {
	changed := slices.Clone(cert)
	changed[index] = entry
	return changed
}

// ofLength repeats cert up to the given length; if cert is empty it repeats 1.
func ofLength(cert []int, length int) []int {
	long := make([]int, length)
	for i := range long {
		long[i] = 1
		if len(cert) > 0 {
			long[i] = cert[i%len(cert)]
		}
	}
	return long
}

// candidates returns all members, and numbers that are not members.
func candidates() []int {
	return append(oddMembers(), 1, 2, 3, 4, 5, 6)
}

// likelyEntries is what a certificate of any two lists would have if they were quorum systems: a common number, or 1.
func likelyEntries(f [][]int, g [][]int) []int {
	var cert []int
	for _, a := range f {
		for _, b := range g {
			entry := 1
			if at := slices.IndexFunc(a, func(m int) bool { return slices.Contains(b, m) }); at >= 0 {
				entry = a[at]
			}
			cert = append(cert, entry)
		}
	}
	return cert
}

package tests

import "slices"

// twoLists has the fields of a configuration; its lists need not be quorum systems.
type twoLists struct {
	Prepare [][]int
	Accept  [][]int
}

func (c twoLists) complete() bool {
	return len(c.Prepare) > 0 && len(c.Accept) > 0 && isFamily(c.Prepare) && isFamily(c.Accept)
}

func (c twoLists) safe() bool {
	// The lists of what is not complete may be too long for all pairs of them.
	return c.complete() && newPair(c.Prepare, c.Accept).intersect()
}

// members returns the members that are in a quorum of either list, member by member.
func (c twoLists) members() []int {
	var list []int
	for m := 1; m <= 6; m++ {
		has := func(quorum []int) bool { return slices.Contains(quorum, m) }
		if slices.ContainsFunc(c.Prepare, has) || slices.ContainsFunc(c.Accept, has) {
			list = append(list, m)
		}
	}
	return list
}

// joint has the quorums that contain a quorum of c and one of d.
func (c twoLists) joint(d twoLists) twoLists {
	return twoLists{
		Prepare: upsetOf(c.Prepare).and(upsetOf(d.Prepare)).quorums(),
		Accept:  upsetOf(c.Accept).and(upsetOf(d.Accept)).quorums(),
	}
}

func sameLists(c twoLists, d twoLists) bool {
	return sameFamily(c.Prepare, d.Prepare) && sameFamily(c.Accept, d.Accept)
}

// completeLists returns complete configurations, of which some are safe.
func completeLists() []twoLists {
	var all []twoLists
	for _, pair := range familyPairs() {
		if len(pair.f) > 0 && len(pair.g) > 0 {
			all = append(all, twoLists{pair.f, pair.g})
		}
	}
	return all
}

func safeLists() []twoLists {
	return slices.DeleteFunc(completeLists(), func(c twoLists) bool { return !c.safe() })
}

func unsafeLists() []twoLists {
	return slices.DeleteFunc(completeLists(), twoLists.safe)
}

// incompleteLists returns configurations of which one side or both are empty or no quorum system.
func incompleteLists() []twoLists {
	var all []twoLists
	for _, bad := range append(notFamilies(), emptyFamilies()...) {
		for _, f := range [][][]int{nil, {}, {{1}}, {{1, 2, 3, 4, 5, 6}}, exactly(1, 6), largestFamily(), {{2}, {1}}, {nil}, bad} {
			all = append(all, twoLists{bad, f}, twoLists{f, bad})
		}
	}
	return slices.DeleteFunc(all, twoLists.complete)
}

// fewIncomplete returns one incomplete configuration of every kind.
func fewIncomplete() []twoLists {
	good := [][]int{{1, 2, 3, 4, 5, 6}}
	all := []twoLists{{}, {Prepare: good}, {Accept: good}, {[][]int{}, good}, {good, [][]int{}}}
	for _, bad := range [][][]int{{nil}, {{}}, {{2}, {1}}, {{1}, {1}}, {{1}, {1, 2}}, {{0}}, {{7}}, {{2, 1}}, validSets()[1:]} {
		all = append(all, twoLists{bad, good}, twoLists{good, bad}, twoLists{bad, bad}, twoLists{bad, nil}, twoLists{nil, bad})
	}
	return all
}

// fewSafe returns safe configurations for the tests that combine two of them.
func fewSafe() []twoLists {
	all := []twoLists{
		{[][]int{{1}}, [][]int{{1}}}, {[][]int{{6}}, [][]int{{6}}}, {[][]int{{1, 2}}, [][]int{{2, 3}}}, {[][]int{{5, 6}}, [][]int{{4, 5}}},
		{largestFamily(), exactly(4, 6)}, {exactly(4, 6), largestFamily()}, {largestFamily(), [][]int{{1, 2, 3, 4, 5, 6}}}, {[][]int{{1, 2, 3, 4, 5, 6}}, largestFamily()},
		// All of the first system and one of the second, and the reverse.
		{exactly(6, 6), exactly(1, 6)}, {exactly(1, 6), exactly(6, 6)}, {exactly(2, 6), exactly(5, 6)},
		{[][]int{{1, 2}, {3, 4}, {5, 6}}, [][]int{{1, 3, 5}, {2, 4, 6}}}, {[][]int{{1, 3, 5}, {2, 4, 6}}, [][]int{{1, 2}, {3, 4}, {5, 6}}},
	}
	for i, f := range nonempty(familiesUpTo(3)) {
		for k, g := range nonempty(familiesUpTo(3)) {
			if (i+k)%2 == 0 {
				all = append(all, twoLists{f, g})
			}
		}
	}
	for i, f := range nonempty(wideFamilies()) {
		if i%5 == 0 {
			all = append(all, twoLists{transversalsOf(f), f})
		}
	}
	return slices.DeleteFunc(all, func(c twoLists) bool { return !c.safe() })
}

// everyMeets is the condition of P79: each set that satisfies one expression meets each set that satisfies the other.
func everyMeets(e knownExpr, other knownExpr) bool {
	for s, yes := range e.satisfied {
		for t, also := range other.satisfied {
			if yes && also && s&t == 0 {
				return false
			}
		}
	}
	return true
}

type exprPair struct {
	prepare knownExpr
	accept  knownExpr
}

// exprPairs returns pairs of all kinds of expressions, of which some have quorums that do not meet.
func exprPairs() []exprPair {
	var pairs []exprPair
	all := knownExprs()
	for i, e := range all {
		for k := i % 29; k < len(all); k += 29 {
			pairs = append(pairs, exprPair{e, all[k]})
		}
	}
	for _, e := range edgeExprs() {
		for _, other := range append(edgeExprs(), knownMembers()...) {
			pairs = append(pairs, exprPair{e, other}, exprPair{other, e})
		}
	}
	return pairs
}

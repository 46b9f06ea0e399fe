package tests

import (
	"slices"
	"testing"

	"loop.example/flexquorum/impl"
)

func TestDocumentExamplesOfWeightedVotes(t *testing.T) {
	if impl.MaxWeight != 9 {
		t.Errorf("MaxWeight is %d", impl.MaxWeight)
	}
	if got := impl.WeightsMajority([]int{1, 1, 2}); got != 3 {
		t.Errorf("WeightsMajority of [1 1 2] is %d", got)
	}
}

// The other tests rely on the assignments being varied.
func TestAssignmentsCoverTheEdges(t *testing.T) {
	var lengths, withoutVotes, allMost [7]int
	var parities [2]int
	for _, w := range assignments() {
		lengths[len(w)]++
		parities[totalVotes(w)%2]++
		if slices.Max(w) == 0 {
			withoutVotes[len(w)]++
		}
		if slices.Min(w) == 9 {
			allMost[len(w)]++
		}
	}
	if lengths[0] != 0 || slices.Contains(lengths[1:], 0) || slices.Contains(withoutVotes[1:], 0) || slices.Contains(allMost[1:], 0) {
		t.Errorf("numbers of assignments by length: %v, without votes %v, with the most votes %v", lengths, withoutVotes, allMost)
	}
	if parities[0] < 100 || parities[1] < 100 {
		t.Errorf("even and odd totals: %v", parities)
	}
}

func TestWeightsValid(t *testing.T) {
	for _, w := range assignments() {
		if !impl.WeightsValid(w) {
			t.Fatalf("WeightsValid(%v) is false", w)
		}
	}
	for _, w := range notAssignments() {
		if impl.WeightsValid(w) {
			t.Fatalf("WeightsValid of %d members is true: %v", len(w), w)
		}
	}
}

func TestWeightsSum(t *testing.T) {
	for _, w := range assignments() {
		for _, s := range validSets() {
			if got := impl.WeightsSum(w, s); got != votesIn(w, s) {
				t.Fatalf("WeightsSum(%v, %v) is %d", w, s, got)
			}
		}
	}
}

func TestMembersWithoutVotes(t *testing.T) {
	must := familyOrFail(t)
	w := []int{0, 3, 0, 2}
	if got := impl.WeightsSum(w, []int{1, 3, 5, 6}); got != 0 {
		t.Errorf("members without votes have %d votes", got)
	}
	if got := impl.WeightsSum(w, []int{1, 2, 3, 4, 5, 6}); got != 5 {
		t.Errorf("all members have %d votes", got)
	}
	if f := must(impl.WeightsFamily(w, 2)); !sameFamily(f, [][]int{{2}, {4}}) {
		t.Errorf("the sets with two votes are %v", f)
	}
	if f := must(impl.WeightsFamily(w, 5)); !sameFamily(f, [][]int{{2, 4}}) {
		t.Errorf("the sets with five votes are %v", f)
	}
}

// Naming more members without votes changes nothing but the length.
func TestMembersBeyondTheAssignment(t *testing.T) {
	must := familyOrFail(t)
	for _, w := range assignments() {
		long := append(slices.Clone(w), make([]int, 6-len(w))...)
		for _, s := range validSets() {
			if short, full := impl.WeightsSum(w, s), impl.WeightsSum(long, s); short != full {
				t.Fatalf("%v has %d votes of %v, but %d of %v", s, short, w, full, long)
			}
		}
		for need := 1; need <= totalVotes(w); need++ {
			if short, full := must(impl.WeightsFamily(w, need)), must(impl.WeightsFamily(long, need)); !sameFamily(short, full) {
				t.Fatalf("WeightsFamily(%v, %d) is %v, but %v for %v", w, need, short, full, long)
			}
		}
		if short, full := impl.WeightsMajority(w), impl.WeightsMajority(long); short != full {
			t.Fatalf("WeightsMajority(%v) is %d, but %d for %v", w, short, full, long)
		}
	}
}

func TestAssignmentInWhichNobodyHasAVote(t *testing.T) {
	for n := 1; n <= 6; n++ {
		w := make([]int, n)
		if !impl.WeightsValid(w) || impl.WeightsMajority(w) != 1 {
			t.Errorf("%v: valid %v, majority %d", w, impl.WeightsValid(w), impl.WeightsMajority(w))
		}
		for _, s := range validSets() {
			if got := impl.WeightsSum(w, s); got != 0 {
				t.Errorf("WeightsSum(%v, %v) is %d", w, s, got)
			}
		}
		for _, need := range append(oddNeeds(), 1, 2, 9, 54) {
			if f, ok := impl.WeightsFamily(w, need); ok || len(f) != 0 {
				t.Errorf("WeightsFamily(%v, %d) is %v, %v", w, need, f, ok)
			}
		}
	}
}

// Promise 46: the votes of a union and an intersection are those of both sets.
func TestPromise46(t *testing.T) {
	for _, w := range edgeAssignments() {
		for _, a := range validSets() {
			for _, b := range validSets() {
				left := impl.WeightsSum(w, impl.SetUnion(a, b)) + impl.WeightsSum(w, impl.SetIntersect(a, b))
				if right := impl.WeightsSum(w, a) + impl.WeightsSum(w, b); left != right || right != votesIn(w, a)+votesIn(w, b) {
					t.Fatalf("%v, %v and %v: %d and %d", w, a, b, left, right)
				}
			}
		}
	}
}

// forEachNeed calls check for every assignment and every requirement that can be met, with the quorums.
func forEachNeed(t *testing.T, check func(w []int, need int, f [][]int)) {
	t.Helper()
	must := familyOrFail(t)
	for _, w := range assignments() {
		for need := 1; need <= totalVotes(w); need++ {
			check(w, need, must(impl.WeightsFamily(w, need)))
		}
	}
}

// Promise 47: the sets with a quorum are those with enough votes.
func TestPromise47(t *testing.T) {
	forEachNeed(t, func(w []int, need int, f [][]int) {
		enough := upsetOfVotes(w, need)
		if want := enough.quorums(); !sameFamily(f, want) {
			t.Fatalf("WeightsFamily(%v, %d) is %v, not %v", w, need, f, want)
		}
		for _, s := range validSets() {
			if got := impl.FamilyHasQuorum(f, s); got != (impl.WeightsSum(w, s) >= need) {
				t.Fatalf("%v has a quorum of WeightsFamily(%v, %d): %v", s, w, need, got)
			}
		}
	})
}

func TestLeastAndLargestNeed(t *testing.T) {
	must := familyOrFail(t)
	for _, w := range assignments() {
		var single [][]int
		var voters []int
		for i, votes := range w {
			if votes > 0 {
				single = append(single, []int{i + 1})
				voters = append(voters, i+1)
			}
		}
		if len(voters) == 0 {
			continue
		}
		if f := must(impl.WeightsFamily(w, 1)); !sameFamily(f, single) {
			t.Fatalf("WeightsFamily(%v, 1) is %v", w, f)
		}
		if f := must(impl.WeightsFamily(w, totalVotes(w))); !sameFamily(f, [][]int{voters}) {
			t.Fatalf("WeightsFamily(%v, %d) is %v", w, totalVotes(w), f)
		}
	}
}

func TestNeedOutOfRange(t *testing.T) {
	for _, w := range assignments() {
		total := totalVotes(w)
		for _, need := range append(oddNeeds(), total+1, total+2, 2*total+1, -total) {
			if f, ok := impl.WeightsFamily(w, need); ok || len(f) != 0 {
				t.Fatalf("WeightsFamily(%v, %d) is %v, %v", w, need, f, ok)
			}
		}
	}
}

// checkCommonMember fails the test unless every quorum of f and every quorum of g have a common member.
func checkCommonMember(t *testing.T, w []int, f [][]int, g [][]int) {
	t.Helper()
	for _, a := range f {
		for _, b := range g {
			if len(impl.SetIntersect(a, b)) == 0 {
				t.Fatalf("%v: the quorums %v and %v have no common member", w, a, b)
			}
		}
	}
}

// Promise 48: quorums with a majority have a common member.
func TestPromise48(t *testing.T) {
	checked := 0
	forEachNeed(t, func(w []int, need int, f [][]int) {
		if need >= impl.WeightsMajority(w) {
			checkCommonMember(t, w, f, f)
			checked++
		}
	})
	if checked < 1000 {
		t.Errorf("only %d majorities", checked)
	}
}

// Half of the votes are not a majority.
func TestHalfOfTheVotesIsTooFew(t *testing.T) {
	must := familyOrFail(t)
	for _, w := range [][]int{{1, 1}, {9, 9}, {2, 1, 1}, {1, 1, 1, 1}, {5, 4, 3, 2, 1, 1}, {9, 9, 9, 9, 9, 9}} {
		f := must(impl.WeightsFamily(w, impl.WeightsMajority(w)-1))
		disjoint := slices.ContainsFunc(f, func(a []int) bool {
			return slices.ContainsFunc(f, func(b []int) bool { return len(impl.SetIntersect(a, b)) == 0 })
		})
		if !disjoint {
			t.Errorf("%v: one vote less than the majority has no disjoint quorums: %v", w, f)
		}
	}
}

// Promise 49: quorums whose votes together exceed the total have a common member.
func TestPromise49(t *testing.T) {
	must := familyOrFail(t)
	forEachNeed(t, func(w []int, need int, f [][]int) {
		other := totalVotes(w) - need + 1
		checkCommonMember(t, w, f, must(impl.WeightsFamily(w, other)))
	})
}

// Promise 50: no member of a quorum can be spared, and none is without votes.
func TestPromise50(t *testing.T) {
	forEachNeed(t, func(w []int, need int, f [][]int) {
		if len(f) == 0 {
			t.Fatalf("WeightsFamily(%v, %d) is empty", w, need)
		}
		for _, quorum := range f {
			for i, m := range quorum {
				rest := slices.Delete(slices.Clone(quorum), i, i+1)
				if left := impl.WeightsSum(w, rest); left < 0 || left >= need {
					t.Fatalf("WeightsFamily(%v, %d) has %v, and %v has %d votes", w, need, quorum, rest, left)
				}
				if m > len(w) || w[m-1] == 0 {
					t.Fatalf("WeightsFamily(%v, %d) has %v with %d, who has no votes", w, need, quorum, m)
				}
			}
		}
	})
}

// Promise 51: the majority is the smallest number whose double exceeds the total.
func TestPromise51(t *testing.T) {
	for _, w := range assignments() {
		majority, total := impl.WeightsMajority(w), totalVotes(w)
		if 2*majority <= total || 2*(majority-1) > total || majority == 0 {
			t.Fatalf("WeightsMajority(%v) is %d", w, majority)
		}
	}
	for _, w := range notAssignments() {
		if got := impl.WeightsMajority(w); got != 0 {
			t.Fatalf("WeightsMajority(%v) is %d", w, got)
		}
	}
}

func TestMajorityOfEvenAndOddTotals(t *testing.T) {
	tests := []struct {
		w    []int
		want int
	}{
		{[]int{0}, 1}, {[]int{1}, 1}, {[]int{2}, 2}, {[]int{3}, 2}, {[]int{8}, 5}, {[]int{9}, 5}, {[]int{1, 1}, 2}, {[]int{1, 0, 2}, 2}, {[]int{9, 9}, 10},
		{[]int{1, 1, 1, 1, 1, 1}, 4}, {[]int{1, 1, 1, 1, 1}, 3}, {[]int{9, 9, 9, 9, 9, 9}, 28}, {[]int{9, 9, 9, 9, 9, 8}, 27}, {[]int{0, 0, 0, 0, 0, 0}, 1},
	}
	for _, test := range tests {
		if got := impl.WeightsMajority(test.w); got != test.want {
			t.Errorf("WeightsMajority(%v) is %d, not %d", test.w, got, test.want)
		}
	}
}

// Promise 52: losing all votes keeps an assignment valid; negative or too many votes do not.
func TestPromise52(t *testing.T) {
	for _, w := range assignments() {
		for i := range w {
			changed := slices.Clone(w)
			changed[i] = 0
			if !impl.WeightsValid(w) || !impl.WeightsValid(changed) {
				t.Fatalf("WeightsValid of %v and %v is not true", w, changed)
			}
			for _, votes := range oddVotes() {
				changed[i] = votes
				if impl.WeightsValid(changed) {
					t.Fatalf("WeightsValid(%v) is true", changed)
				}
			}
		}
	}
}

// Promise 53: with one vote per member, the quorums are those of a threshold. Members without votes are not among its operands.
func TestPromise53(t *testing.T) {
	must := familyOrFail(t)
	for n := 1; n <= 6; n++ {
		for _, w := range allAssignments(n, 1) {
			var voters []int
			for i, votes := range w {
				if votes == 1 {
					voters = append(voters, i+1)
				}
			}
			for k := 1; k <= len(voters); k++ {
				text, _ := impl.ExprThreshold(k, voters)
				if f, want := must(impl.WeightsFamily(w, k)), must(impl.FamilyOfExpr(text)); !sameFamily(f, want) {
					t.Fatalf("WeightsFamily(%v, %d) is %v, but the quorums of %s are %v", w, k, f, text, want)
				}
			}
		}
	}
}

// Promise 54: a quorum of one vote more contains a quorum.
func TestPromise54(t *testing.T) {
	must := familyOrFail(t)
	forEachNeed(t, func(w []int, need int, f [][]int) {
		if need == totalVotes(w) {
			return
		}
		for _, quorum := range must(impl.WeightsFamily(w, need+1)) {
			if !impl.FamilyHasQuorum(f, quorum) {
				t.Fatalf("%v: %v has %d votes, but no quorum of %v", w, quorum, need+1, f)
			}
		}
	})
}

// Promise 55: doubling everything keeps the quorums.
func TestPromise55(t *testing.T) {
	must := familyOrFail(t)
	checked := 0
	forEachNeed(t, func(w []int, need int, f [][]int) {
		doubled := slices.Clone(w)
		for i := range doubled {
			doubled[i] *= 2
		}
		if slices.Max(doubled) > 9 {
			if g, ok := impl.WeightsFamily(doubled, 2*need); ok || len(g) != 0 {
				t.Fatalf("WeightsFamily(%v, %d) is %v, %v", doubled, 2*need, g, ok)
			}
			return
		}
		checked++
		if g := must(impl.WeightsFamily(doubled, 2*need)); !sameFamily(f, g) {
			t.Fatalf("WeightsFamily(%v, %d) is %v, and doubled %v", w, need, f, g)
		}
	})
	if checked < 1000 {
		t.Errorf("only %d doubled", checked)
	}
}

func TestInvalidArgumentsOfWeights(t *testing.T) {
	for _, w := range notAssignments() {
		for _, s := range someSets() {
			if got := impl.WeightsSum(w, s); got != -1 {
				t.Fatalf("WeightsSum(%v, %v) is %d", w, s, got)
			}
		}
		for _, need := range append(oddNeeds(), 1, 2, 3, 9, 54, len(w)) {
			if f, ok := impl.WeightsFamily(w, need); ok || len(f) != 0 {
				t.Fatalf("WeightsFamily(%v, %d) is %v, %v", w, need, f, ok)
			}
		}
	}
	for _, s := range invalidSets() {
		for _, w := range edgeAssignments() {
			if got := impl.WeightsSum(w, s); got != -1 {
				t.Fatalf("WeightsSum(%v, %v) is %d", w, s, got)
			}
		}
	}
}

func TestWeightsArgumentsAreNotModified(t *testing.T) {
	for _, w := range append(edgeAssignments(), notAssignments()...) {
		votes, long := withSpare(w)
		want := slices.Clone(long)
		impl.WeightsValid(votes)
		impl.WeightsMajority(votes)
		impl.WeightsSum(votes, votes)
		for _, s := range someSets() {
			set, longSet := withSpare(s)
			wantSet := slices.Clone(longSet)
			impl.WeightsSum(votes, set)
			if !slices.Equal(longSet, wantSet) {
				t.Fatalf("%v became %v", wantSet, longSet)
			}
		}
		for _, need := range append(oddNeeds(), 1, 2, 3, 9) {
			f, _ := impl.WeightsFamily(votes, need)
			scribbleFamily(f)
		}
		if !slices.Equal(long, want) {
			t.Fatalf("%v became %v", want, long)
		}
	}
}

func TestWeightsResultsShareNoMemory(t *testing.T) {
	for _, w := range append(edgeAssignments(), notAssignments()...) {
		for _, need := range []int{0, 1, 2, 3, 5, 9, 10, 27, 54, 55} {
			checkFreshFamily(t, func() [][]int { f, _ := impl.WeightsFamily(w, need); return f })
		}
	}
}

// One slice may be both the votes and the set.
func TestWeightsSumOfOneSlice(t *testing.T) {
	w := []int{1, 2, 3, 4, 5, 6}
	if got := impl.WeightsSum(w, w); got != 21 {
		t.Errorf("WeightsSum(%v, %v) is %d", w, w, got)
	}
	if got := impl.WeightsSum(w[2:], w[:4]); got != 18 {
		t.Errorf("WeightsSum(%v, %v) is %d", w[2:], w[:4], got)
	}
}

func TestEmptySetAndNilHaveNoVotes(t *testing.T) {
	for _, w := range assignments() {
		if impl.WeightsSum(w, nil) != 0 || impl.WeightsSum(w, []int{}) != 0 {
			t.Fatalf("the empty set has votes of %v", w)
		}
	}
}

package tests

import (
	"slices"
	"sync"
	"testing"

	"loop.example/flexquorum/impl"
)

// metrics is what the chapter says of one quorum system and one number of members.
type metrics struct {
	resilience   int
	availability int
	smallest     int
	critical     []int
}

func checkMetrics(t *testing.T, f [][]int, n int, want metrics) {
	t.Helper()
	if got := impl.Resilience(f, n); got != want.resilience {
		t.Fatalf("Resilience(%v, %d) is %d, not %d", f, n, got, want.resilience)
	}
	if got := impl.Availability(f, n); got != want.availability {
		t.Fatalf("Availability(%v, %d) is %d, not %d", f, n, got, want.availability)
	}
	if got := impl.SmallestQuorum(f); got != want.smallest {
		t.Fatalf("SmallestQuorum(%v) is %d, not %d", f, got, want.smallest)
	}
	if got := impl.CriticalMembers(f); !slices.Equal(got, want.critical) {
		t.Fatalf("CriticalMembers(%v) is %v, not %v", f, got, want.critical)
	}
}

// checkNotMeasured fails the test unless f has neither a resilience nor an availability among n members.
func checkNotMeasured(t *testing.T, f [][]int, n int) {
	t.Helper()
	if r, a := impl.Resilience(f, n), impl.Availability(f, n); r != -1 || a != -1 {
		t.Fatalf("among %d members, the resilience of %v is %d and the availability is %d", n, f, r, a)
	}
}

// forEachMeasured calls check with quorum systems and all numbers of members that are possible for them.
func forEachMeasured(check func(f [][]int, n int)) {
	for _, f := range measuredFamilies() {
		for n := largestMember(f); n <= 6; n++ {
			check(f, n)
		}
	}
}

// The other tests rely on the systems being varied.
func TestMeasuredFamiliesCoverTheEdges(t *testing.T) {
	var resiliences [6]int
	var single, largest, critical, notCritical, oneMember, exactFit, room int
	count := func(counter *int, seen bool) {
		if seen {
			*counter++
		}
	}
	forEachMeasured(func(f [][]int, n int) {
		if !isFamily(f) {
			t.Fatalf("%v is not a quorum system", f)
		}
		resiliences[resilienceIn(f, n)]++
		count(&single, len(f) == 1)
		count(&largest, len(f) == 20)
		count(&critical, len(f) > 1 && len(intersectionOf(f)) > 0)
		count(&notCritical, resilienceIn(f, n) > 0)
		count(&oneMember, n == 1)
		count(&exactFit, n == largestMember(f))
		count(&room, n > largestMember(f))
	})
	if counts := []int{single, largest, critical, notCritical, oneMember, exactFit, room}; slices.Contains(counts, 0) || slices.Contains(resiliences[:], 0) {
		t.Errorf("numbers of quorum systems: %v, and by resilience: %v", counts, resiliences)
	}
}

func TestMajorityOfThreeMembers(t *testing.T) {
	majority := [][]int{{1, 2}, {1, 3}, {2, 3}}
	for n, availability := range map[int]int{3: 4, 4: 8, 5: 16, 6: 32} {
		checkMetrics(t, majority, n, metrics{resilience: 1, availability: availability, smallest: 2})
	}
	for _, n := range []int{1, 2} {
		checkNotMeasured(t, majority, n)
	}
}

func TestMetricsOfSomeQuorumSystems(t *testing.T) {
	tests := []struct {
		f    [][]int
		n    int
		want metrics
	}{
		{[][]int{{1}}, 1, metrics{0, 1, 1, []int{1}}},
		{[][]int{{1}}, 6, metrics{0, 32, 1, []int{1}}},
		{[][]int{{6}}, 6, metrics{0, 32, 1, []int{6}}},
		{[][]int{{1, 2, 3, 4, 5, 6}}, 6, metrics{0, 1, 6, []int{1, 2, 3, 4, 5, 6}}},
		{exactly(1, 6), 6, metrics{5, 63, 1, nil}},
		{largestFamily(), 6, metrics{3, 42, 3, nil}},
		{exactly(5, 6), 6, metrics{1, 7, 5, nil}},
		{[][]int{{1}, {2}}, 2, metrics{1, 3, 1, nil}},
		{[][]int{{1, 2}, {1, 3}}, 3, metrics{0, 3, 2, []int{1}}},
		{[][]int{{1, 2, 3}, {2, 3, 4}}, 4, metrics{0, 3, 3, []int{2, 3}}},
		// The first quorum is not the smallest, nor is the last.
		{[][]int{{1, 2, 3}, {4, 5}, {1, 2, 4, 6}}, 6, metrics{1, 23, 2, nil}},
		{[][]int{{1, 2}, {3, 4}, {5, 6}}, 6, metrics{2, 37, 2, nil}},
		// No member is in every quorum, but neighbours have one in common.
		{[][]int{{1, 2}, {2, 3}, {3, 4}}, 4, metrics{1, 8, 2, nil}},
	}
	for _, test := range tests {
		checkMetrics(t, test.f, test.n, test.want)
	}
}

func TestMetricsOfTheEmptyQuorumSystem(t *testing.T) {
	for _, empty := range emptyFamilies() {
		for _, n := range append(oddCounts(), 1, 2, 3, 4, 5, 6) {
			checkMetrics(t, empty, n, metrics{resilience: -1, availability: -1, smallest: -1})
		}
		for _, failed := range append(validSets(), invalidSets()...) {
			if impl.Survives(empty, failed) {
				t.Fatalf("the empty quorum system survives %v", failed)
			}
		}
	}
}

func TestMetricsOfOneQuorum(t *testing.T) {
	for _, quorum := range validSets()[1:] {
		f := [][]int{quorum}
		for n := slices.Max(quorum); n <= 6; n++ {
			checkMetrics(t, f, n, metrics{0, 1 << (n - len(quorum)), len(quorum), quorum})
		}
		for _, failed := range validSets() {
			disjoint := maskOf(quorum)&maskOf(failed) == 0
			if got := impl.Survives(f, failed); got != disjoint {
				t.Fatalf("Survives(%v, %v) is %v", f, failed, got)
			}
		}
	}
}

// All quorum systems on five members, so that no kind of them is missed.
func TestMetricsOfAllQuorumSystemsOfFiveMembers(t *testing.T) {
	for _, f := range nonempty(familiesUpTo(5)) {
		smallest := len(slices.MinFunc(f, func(a []int, b []int) int { return len(a) - len(b) }))
		checkMetrics(t, f, 5, metrics{resilienceIn(f, 5), availabilityIn(f, 5), smallest, intersectionOf(f)})
	}
}

func TestMembersBeyondTheNumber(t *testing.T) {
	for _, f := range measuredFamilies() {
		most := largestMember(f)
		for n := 1; n < most; n++ {
			checkNotMeasured(t, f, n)
		}
		for n := most; n <= 6; n++ {
			if r, a := impl.Resilience(f, n), impl.Availability(f, n); r < 0 || a < 1 {
				t.Fatalf("among %d members, the resilience of %v is %d and the availability is %d", n, f, r, a)
			}
		}
	}
	// The other quorums are among the first members, and have a quorum for themselves.
	checkNotMeasured(t, [][]int{{1}, {2}, {3}, {4}}, 3)
	checkNotMeasured(t, [][]int{{1, 2}, {1, 3}, {2, 3}, {6}}, 5)
	checkNotMeasured(t, [][]int{{1}, {2, 6}}, 5)
	checkNotMeasured(t, [][]int{{2}}, 1)
}

func TestNumberOfMembersOutOfRange(t *testing.T) {
	for _, f := range append(measuredFamilies(), emptyFamilies()...) {
		for _, n := range oddCounts() {
			checkNotMeasured(t, f, n)
		}
	}
}

func TestMetricsOfWhatIsNoQuorumSystem(t *testing.T) {
	for _, bad := range notFamilies() {
		for _, n := range append(oddCounts(), 1, 2, 3, 4, 5, 6) {
			checkNotMeasured(t, bad, n)
		}
		if got := impl.SmallestQuorum(bad); got != -1 {
			t.Fatalf("SmallestQuorum(%v) is %d", bad, got)
		}
		if got := impl.CriticalMembers(bad); len(got) != 0 {
			t.Fatalf("CriticalMembers(%v) is %v", bad, got)
		}
		for _, failed := range someSets() {
			if impl.Survives(bad, failed) {
				t.Fatalf("Survives(%v, %v) is true", bad, failed)
			}
		}
	}
}

func TestFailedMembersThatAreNoSet(t *testing.T) {
	for _, failed := range invalidSets() {
		for _, f := range [][][]int{nil, exactly(1, 6), {{1}}, {{6}}, {{1, 2, 3, 4, 5, 6}}, largestFamily(), {{2, 0}}} {
			if impl.Survives(f, failed) {
				t.Fatalf("Survives(%v, %v) is true", f, failed)
			}
		}
	}
}

// Promise 66: a quorum is left by any failures up to the resilience, and not by some of one more.
func TestPromise66(t *testing.T) {
	forEachMeasured(func(f [][]int, n int) {
		up := upsetOf(f)
		r := impl.Resilience(f, n)
		if r < 0 || r >= n {
			t.Fatalf("Resilience(%v, %d) is %d", f, n, r)
		}
		for failures := range r + 2 {
			lost := slices.IndexFunc(remaining(failures, n), func(s []int) bool { return !up[maskOf(s)] })
			if (lost >= 0) != (failures > r) {
				t.Fatalf("Resilience(%v, %d) is %d, but %d failures leave a quorum: %v", f, n, r, failures, lost < 0)
			}
		}
	})
}

// Promise 67: as many failures as the smallest transversal has members are too many.
func TestPromise67(t *testing.T) {
	must := familyOrFail(t)
	for _, f := range measuredFamilies() {
		transversals := must(impl.FamilyTransversals(f))
		if r, size := impl.Resilience(f, impl.MaxMembers), impl.SmallestQuorum(transversals); r != size-1 {
			t.Fatalf("the resilience of %v is %d, and the smallest of its transversals %v has %d members", f, r, transversals, size)
		}
	}
}

// Promise 68: the availability is the number of subsets with a quorum.
func TestPromise68(t *testing.T) {
	forEachMeasured(func(f [][]int, n int) {
		if got, want := impl.Availability(f, n), availabilityIn(f, n); got != want {
			t.Fatalf("Availability(%v, %d) is %d, not %d", f, n, got, want)
		}
	})
	for _, n := range []int{1, 3, 5} {
		if got := impl.Availability(exactly(n/2+1, n), n); got != 1<<n/2 {
			t.Errorf("the availability of a majority of %d members is %d", n, got)
		}
	}
}

// A member that is in no quorum may be there or not.
func TestMembersInNoQuorumDoubleTheAvailability(t *testing.T) {
	forEachMeasured(func(f [][]int, n int) {
		if n == 6 {
			return
		}
		if few, more := impl.Availability(f, n), impl.Availability(f, n+1); more != 2*few {
			t.Fatalf("the availability of %v is %d among %d members and %d among one more", f, few, n, more)
		}
		if few, more := impl.Resilience(f, n), impl.Resilience(f, n+1); few != more {
			t.Fatalf("the resilience of %v is %d among %d members and %d among one more", f, few, n, more)
		}
	})
}

// Promise 69: a set meets every quorum if and only if its complement has none.
func TestPromise69(t *testing.T) {
	must := familyOrFail(t)
	for _, f := range measuredFamilies() {
		transversals := must(impl.FamilyTransversals(f))
		if a, b := impl.Availability(f, 6), impl.Availability(transversals, 6); a+b != 64 {
			t.Fatalf("the availability of %v is %d, and of its transversals %v it is %d", f, a, transversals, b)
		}
	}
}

// Promise 70: SmallestQuorum is the least size, and there is one unless the system is empty or invalid.
func TestPromise70(t *testing.T) {
	for _, f := range measuredFamilies() {
		size := impl.SmallestQuorum(f)
		if !slices.ContainsFunc(f, func(quorum []int) bool { return len(quorum) == size }) {
			t.Fatalf("SmallestQuorum(%v) is %d, but no quorum has this size", f, size)
		}
		if slices.ContainsFunc(f, func(quorum []int) bool { return len(quorum) < size }) {
			t.Fatalf("SmallestQuorum(%v) is %d, but a quorum is smaller", f, size)
		}
	}
}

// Promise 71: a member is critical if its failure alone leaves no quorum. The empty system has no critical members.
func TestPromise71(t *testing.T) {
	for _, f := range measuredFamilies() {
		critical := impl.CriticalMembers(f)
		if !isValidSet(critical) {
			t.Fatalf("CriticalMembers(%v) is %v", f, critical)
		}
		up := upsetOf(f)
		for m := 1; m <= 6; m++ {
			left := up[63-1<<(m-1)]
			if got := slices.Contains(critical, m); got == left || impl.Survives(f, []int{m}) != left {
				t.Fatalf("CriticalMembers(%v) is %v, but without %d a quorum is left: %v", f, critical, m, left)
			}
		}
	}
}

// Promise 72: a member is critical if it is a transversal by itself.
func TestPromise72(t *testing.T) {
	must := familyOrFail(t)
	for _, f := range measuredFamilies() {
		transversals := must(impl.FamilyTransversals(f))
		critical := impl.CriticalMembers(f)
		for m := 1; m <= 6; m++ {
			alone := slices.ContainsFunc(transversals, func(s []int) bool { return slices.Equal(s, []int{m}) })
			if slices.Contains(critical, m) != alone {
				t.Fatalf("CriticalMembers(%v) is %v, and the transversals are %v", f, critical, transversals)
			}
		}
	}
}

// A quorum system with a critical member does not survive every failure of one member, and the others do.
func TestCriticalMembersMakeTheResilienceZero(t *testing.T) {
	forEachMeasured(func(f [][]int, n int) {
		critical, r := impl.CriticalMembers(f), impl.Resilience(f, n)
		if (len(critical) > 0) != (r == 0) {
			t.Fatalf("the resilience of %v among %d members is %d, and %v are critical", f, n, r, critical)
		}
	})
}

// Promise 73: a system survives if the other members have a quorum, and then it survives fewer failures too.
func TestPromise73(t *testing.T) {
	for _, f := range append(measuredFamilies(), emptyFamilies()...) {
		up := upsetOf(f)
		for mask, failed := range validSets() {
			got := impl.Survives(f, failed)
			if got != up[63-mask] || got != impl.FamilyHasQuorum(f, survivors(failed)) {
				t.Fatalf("Survives(%v, %v) is %v", f, failed, got)
			}
			for i := range failed {
				fewer := slices.Delete(slices.Clone(failed), i, i+1)
				if got && !impl.Survives(f, fewer) {
					t.Fatalf("%v survives %v, but not %v", f, failed, fewer)
				}
			}
		}
	}
}

func TestNoFailedMembersAndAllFailed(t *testing.T) {
	for _, f := range measuredFamilies() {
		if !impl.Survives(f, nil) || !impl.Survives(f, []int{}) {
			t.Fatalf("%v has no quorum although no member has failed", f)
		}
		if impl.Survives(f, []int{1, 2, 3, 4, 5, 6}) {
			t.Fatalf("%v has a quorum although all members have failed", f)
		}
	}
}

// Promise 74: quorums with k of n members survive the failure of the other n-k.
func TestPromise74(t *testing.T) {
	must := familyOrFail(t)
	for n := 1; n <= 6; n++ {
		members := ascendingFrom(1, n)
		for k := 1; k <= n; k++ {
			text, _ := impl.ExprThreshold(k, members)
			votes := slices.Repeat([]int{1}, n)
			for _, f := range [][][]int{exactly(k, n), must(impl.FamilyOfExpr(text)), must(impl.WeightsFamily(votes, k))} {
				if r := impl.Resilience(f, n); r != n-k {
					t.Errorf("Resilience(%v, %d) is %d, not %d", f, n, r, n-k)
				}
				if size := impl.SmallestQuorum(f); size != k {
					t.Errorf("SmallestQuorum(%v) is %d, not %d", f, size, k)
				}
			}
		}
	}
}

// Promise 75: a system survives as many failures as its resilience, and not all of one more.
func TestPromise75(t *testing.T) {
	for _, f := range measuredFamilies() {
		r := impl.Resilience(f, impl.MaxMembers)
		tooMany := 0
		for _, failed := range validSets() {
			got := impl.Survives(f, failed)
			if len(failed) <= r && !got {
				t.Fatalf("the resilience of %v is %d, but Survives of %v is false", f, r, failed)
			}
			if len(failed) == r+1 && !got {
				tooMany++
			}
		}
		if tooMany == 0 {
			t.Fatalf("the resilience of %v is %d, but it survives one failure more", f, r)
		}
	}
}

func TestMetricsArgumentsAreNotModified(t *testing.T) {
	for _, f := range append(listsForRules(), notFamilies()[:30]...) {
		spare := newSpareFamily(f)
		for _, n := range append(oddCounts(), 1, 2, 3, 4, 5, 6) {
			impl.Resilience(spare.f, n)
			impl.Availability(spare.f, n)
		}
		impl.SmallestQuorum(spare.f)
		scribble(impl.CriticalMembers(spare.f))
		for _, s := range someSets() {
			failed, long := withSpare(s)
			want := slices.Clone(long)
			impl.Survives(spare.f, failed)
			if !slices.Equal(long, want) {
				t.Fatalf("%v became %v", want, long)
			}
		}
		// The failed members may be a quorum of the system itself.
		for _, quorum := range spare.f {
			impl.Survives(spare.f, quorum)
		}
		spare.check(t, f)
	}
}

func TestMetricsResultsShareNoMemory(t *testing.T) {
	for _, f := range append(listsForRules(), measuredFamilies()...) {
		checkFresh(t, func() []int { return impl.CriticalMembers(f) })
	}
	// The result is as long as the only quorum.
	for _, quorum := range validSets()[1:] {
		f := [][]int{slices.Clone(quorum)}
		scribble(impl.CriticalMembers(f))
		if !slices.Equal(f[0], quorum) {
			t.Fatalf("writing to the critical members changed the quorum %v to %v", quorum, f[0])
		}
	}
}

// Calls at the same time, and other calls before, change nothing.
func TestMetricsKeepNoState(t *testing.T) {
	families := append(fewFamilies(), largestFamily())
	var callers sync.WaitGroup
	for range 4 {
		callers.Go(func() {
			for _, f := range families {
				impl.Resilience([][]int{{2}, {1}}, 9)
				impl.Availability(exactly(1, 6), 6)
				if len(f) == 0 {
					continue
				}
				if r, a := impl.Resilience(f, 6), impl.Availability(f, 6); r != resilienceIn(f, 6) || a != availabilityIn(f, 6) {
					t.Errorf("the resilience of %v is %d and the availability is %d", f, r, a)
				}
			}
		})
	}
	callers.Wait()
}

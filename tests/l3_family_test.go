package tests

import (
	"math/rand/v2"
	"slices"
	"testing"

	"loop.example/flexquorum/impl"
)

func TestDocumentExamplesOfQuorumSystems(t *testing.T) {
	if impl.MaxFamily != 20 {
		t.Errorf("MaxFamily is %d", impl.MaxFamily)
	}
	f, ok := impl.FamilyOfExpr("2(1,2,3)")
	if !ok || !sameFamily(f, [][]int{{1, 2}, {1, 3}, {2, 3}}) {
		t.Errorf("FamilyOfExpr of 2(1,2,3) is %v, %v", f, ok)
	}
}

// The other tests rely on the systems being varied.
func TestFamiliesCoverTheEdges(t *testing.T) {
	if n := len(familiesUpTo(3)); n != 19 {
		t.Errorf("%d quorum systems on three members", n)
	}
	if n := len(familiesUpTo(4)); n != 167 {
		t.Errorf("%d quorum systems on four members", n)
	}
	var sizes [21]int
	for _, f := range wideFamilies() {
		sizes[len(f)]++
		if !isFamily(f) {
			t.Errorf("%v is not a quorum system", f)
		}
	}
	if slices.Contains(sizes[:], 0) {
		t.Errorf("numbers of quorum systems by size: %v", sizes)
	}
}

// familyOrFail returns what takes the results of a call and fails the test unless they are a quorum system and true.
func familyOrFail(t *testing.T) func(f [][]int, ok bool) [][]int {
	return func(f [][]int, ok bool) [][]int {
		t.Helper()
		if !ok || !isFamily(f) {
			t.Fatalf("the result is %v, %v", f, ok)
		}
		return f
	}
}

func TestEmptyQuorumSystem(t *testing.T) {
	must := familyOrFail(t)
	for _, empty := range [][][]int{nil, {}} {
		if !impl.FamilyValid(empty) {
			t.Error("the empty quorum system is not valid")
		}
		for _, s := range validSets() {
			if impl.FamilyHasQuorum(empty, s) {
				t.Errorf("%v has a quorum of the empty quorum system", s)
			}
		}
		if f := must(impl.FamilyMinimize(empty)); len(f) != 0 {
			t.Errorf("the minimal sets of no sets are %v", f)
		}
		if f, ok := impl.FamilyTransversals(empty); ok || len(f) != 0 {
			t.Errorf("FamilyTransversals of the empty quorum system is %v, %v", f, ok)
		}
		for _, f := range someFamilies() {
			if x, y := must(impl.FamilyEither(empty, f)), must(impl.FamilyEither(f, empty)); !sameFamily(x, f) || !sameFamily(y, f) {
				t.Fatalf("FamilyEither of %v and the empty quorum system is %v and %v", f, x, y)
			}
			if x, y := must(impl.FamilyBoth(empty, f)), must(impl.FamilyBoth(f, empty)); len(x) != 0 || len(y) != 0 {
				t.Fatalf("FamilyBoth of %v and the empty quorum system is %v and %v", f, x, y)
			}
		}
	}
}

func TestFamilyValid(t *testing.T) {
	for _, f := range append(familiesUpTo(5), wideFamilies()...) {
		if !impl.FamilyValid(f) {
			t.Fatalf("FamilyValid(%v) is false", f)
		}
	}
	for _, f := range notFamilies() {
		if isFamily(f) || impl.FamilyValid(f) {
			t.Fatalf("FamilyValid of %d sets is true: %v", len(f), f)
		}
	}
}

func TestFamilyValidOfPairsAndTriples(t *testing.T) {
	sets := validSets()
	random := rand.New(rand.NewPCG(3, 1))
	for _, a := range sets {
		for _, b := range sets {
			c := sets[random.IntN(64)]
			for _, f := range [][][]int{{a, b}, {a, b, c}, {c, a, b}} {
				if got := impl.FamilyValid(f); got != isFamily(f) {
					t.Fatalf("FamilyValid(%v) is %v", f, got)
				}
			}
		}
	}
}

// FamilyValid has to find a fault wherever it is in the list.
func TestFamilyValidOfSwappedQuorums(t *testing.T) {
	for _, f := range wideFamilies() {
		for i := 1; i < len(f); i++ {
			swapped := slices.Clone(f)
			swapped[i-1], swapped[i] = f[i], f[i-1]
			if impl.FamilyValid(swapped) {
				t.Fatalf("FamilyValid(%v) is true", swapped)
			}
		}
	}
}

// givenSets returns lists of sets in any order, with repetitions, from none to 64.
func givenSets() [][][]int {
	all := [][][]int{nil, {}, slices.Repeat([][]int{{1, 6}}, 64), append(validSets()[1:], []int{1}), validSets()[1:]}
	backwards := validSets()[1:]
	slices.Reverse(backwards)
	all = append(all, backwards)
	for _, s := range validSets()[1:] {
		all = append(all, [][]int{s}, [][]int{s, s})
	}
	random := rand.New(rand.NewPCG(3, 32))
	for size := 1; size <= 64; size++ {
		all = append(all, randomSets(random, size), randomSets(random, size))
		large := slices.DeleteFunc(randomSets(random, size), func(s []int) bool { return len(s) < 3 })
		all = append(all, large)
	}
	return all
}

// Promise 31: minimizing keeps which sets contain one of the given sets.
func TestPromise31(t *testing.T) {
	must := familyOrFail(t)
	for _, sets := range givenSets() {
		f := must(impl.FamilyMinimize(sets))
		if want := upsetOf(sets).quorums(); !sameFamily(f, want) {
			t.Fatalf("FamilyMinimize(%v) is %v, not %v", sets, f, want)
		}
		for _, s := range validSets() {
			one := slices.ContainsFunc(sets, func(given []int) bool { return containsAll(s, given) })
			if got := impl.FamilyHasQuorum(f, s); got != one {
				t.Fatalf("%v has a quorum of %v: %v; contains one of %v: %v", s, f, got, sets, one)
			}
		}
	}
}

// Promise 32: a quorum system is minimal already; order and repetition do not matter.
func TestPromise32(t *testing.T) {
	must := familyOrFail(t)
	for _, f := range append(familiesUpTo(5), wideFamilies()...) {
		if got := must(impl.FamilyMinimize(f)); !sameFamily(got, f) {
			t.Fatalf("FamilyMinimize(%v) is %v", f, got)
		}
	}
	random := rand.New(rand.NewPCG(3, 33))
	for _, sets := range append(givenSets(), wideFamilies()...) {
		want := must(impl.FamilyMinimize(sets))
		mixed := append(slices.Clone(sets), sets[:min(len(sets), 64-len(sets))]...)
		for range 5 {
			random.Shuffle(len(mixed), func(i int, j int) { mixed[i], mixed[j] = mixed[j], mixed[i] })
			if got := must(impl.FamilyMinimize(mixed)); !sameFamily(got, want) {
				t.Fatalf("FamilyMinimize(%v) is %v, not %v", mixed, got, want)
			}
		}
	}
}

func TestMinimizeRefusesInvalidAndEmptySets(t *testing.T) {
	for _, bad := range append(invalidSets(), nil, []int{}) {
		for _, sets := range [][][]int{{bad}, {{1}, bad}, {bad, {1}}, {{2, 3}, bad, {1}}, append(validSets()[1:], bad)} {
			if f, ok := impl.FamilyMinimize(sets); ok || len(f) != 0 {
				t.Fatalf("FamilyMinimize of %d sets with %v is %v, %v", len(sets), bad, f, ok)
			}
		}
	}
}

func TestMinimizeRefusesMoreThan64Sets(t *testing.T) {
	for _, s := range validSets()[1:] {
		if f, ok := impl.FamilyMinimize(slices.Repeat([][]int{s}, 64)); !ok || !sameFamily(f, [][]int{s}) {
			t.Fatalf("FamilyMinimize of 64 times %v is %v, %v", s, f, ok)
		}
		for _, count := range []int{65, 66, 128, 320, 1 << 16} {
			if f, ok := impl.FamilyMinimize(slices.Repeat([][]int{s}, count)); ok || len(f) != 0 {
				t.Fatalf("FamilyMinimize of %d times %v is %v, %v", count, s, f, ok)
			}
		}
	}
}

// Promise 33: the quorums of an expression are the minimal sets that satisfy it.
func TestPromise33(t *testing.T) {
	must := familyOrFail(t)
	for _, e := range knownExprs() {
		f := must(impl.FamilyOfExpr(e.text))
		if want := upset(e.satisfied).quorums(); !sameFamily(f, want) {
			t.Fatalf("FamilyOfExpr(%q) is %v, not %v", e.text, f, want)
		}
		for _, s := range validSets() {
			if impl.FamilyHasQuorum(f, s) != impl.ExprSatisfied(e.text, s) {
				t.Fatalf("%v has a quorum of %v: %v", s, f, impl.FamilyHasQuorum(f, s))
			}
			proper := slices.ContainsFunc(f, func(quorum []int) bool { return len(s) < len(quorum) && containsAll(quorum, s) })
			if proper && impl.ExprSatisfied(e.text, s) {
				t.Fatalf("%v satisfies %q, but is a proper subset of a quorum of %v", s, e.text, f)
			}
		}
	}
}

func TestFamilyOfThresholds(t *testing.T) {
	must := familyOrFail(t)
	for n := 1; n <= 6; n++ {
		for k := 1; k <= n; k++ {
			text, _ := impl.ExprThreshold(k, validSets()[1<<n-1])
			if f := must(impl.FamilyOfExpr(text)); !sameFamily(f, exactly(k, n)) {
				t.Errorf("FamilyOfExpr(%q) is %v", text, f)
			}
		}
	}
}

func TestFamilyOfMalformedExpressions(t *testing.T) {
	for _, text := range malformedExprs() {
		if f, ok := impl.FamilyOfExpr(text); ok || len(f) != 0 {
			t.Errorf("FamilyOfExpr(%.50q) is %v, %v", text, f, ok)
		}
	}
}

// Promise 34: the quorums of the dual are the transversals.
func TestPromise34(t *testing.T) {
	must := familyOrFail(t)
	for _, e := range knownExprs() {
		dual := must(impl.FamilyOfExpr(impl.ExprDual(e.text)))
		transversals := must(impl.FamilyTransversals(must(impl.FamilyOfExpr(e.text))))
		if !sameFamily(dual, transversals) {
			t.Fatalf("%q: the dual has the quorums %v, the transversals are %v", e.text, dual, transversals)
		}
	}
}

// checkHasQuorum compares FamilyHasQuorum of f with what is wanted of every set.
func checkHasQuorum(t *testing.T, f [][]int, want upset) {
	t.Helper()
	for mask, s := range validSets() {
		if got := impl.FamilyHasQuorum(f, s); got != want[mask] {
			t.Fatalf("%v has a quorum of %v: %v", s, f, got)
		}
	}
}

// Promise 35: FamilyEither has the sets with a quorum of one system or the other.
func TestPromise35(t *testing.T) {
	must := familyOrFail(t)
	families := someFamilies()
	for i, f := range families {
		upF := upsetOf(f)
		for _, g := range families[i:] {
			either := must(impl.FamilyEither(f, g))
			want := upF.or(upsetOf(g))
			if !sameFamily(either, want.quorums()) {
				t.Fatalf("FamilyEither(%v, %v) is %v", f, g, either)
			}
			if back := must(impl.FamilyEither(g, f)); !sameFamily(back, either) {
				t.Fatalf("FamilyEither(%v, %v) is %v, and in the other order %v", f, g, either, back)
			}
		}
		checkHasQuorum(t, must(impl.FamilyEither(f, largestFamily())), upF.or(upsetOf(largestFamily())))
	}
}

// Promise 36: FamilyBoth has the sets with a quorum of one system and of the other.
func TestPromise36(t *testing.T) {
	must := familyOrFail(t)
	families := someFamilies()
	for i, f := range families {
		upF := upsetOf(f)
		for _, g := range families[i:] {
			both := must(impl.FamilyBoth(f, g))
			want := upF.and(upsetOf(g))
			if !sameFamily(both, want.quorums()) {
				t.Fatalf("FamilyBoth(%v, %v) is %v", f, g, both)
			}
			if back := must(impl.FamilyBoth(g, f)); !sameFamily(back, both) {
				t.Fatalf("FamilyBoth(%v, %v) is %v, and in the other order %v", f, g, both, back)
			}
		}
		checkHasQuorum(t, must(impl.FamilyBoth(f, largestFamily())), upF.and(upsetOf(largestFamily())))
	}
}

// Promise 37: a system together with itself is the system.
func TestPromise37(t *testing.T) {
	must := familyOrFail(t)
	for _, f := range append(familiesUpTo(5), wideFamilies()...) {
		if both, either := must(impl.FamilyBoth(f, f)), must(impl.FamilyEither(f, f)); !sameFamily(both, f) || !sameFamily(either, f) {
			t.Fatalf("%v with itself is %v and %v", f, both, either)
		}
	}
}

// nonempty leaves out the empty quorum system.
func nonempty(families [][][]int) [][][]int {
	return slices.DeleteFunc(families, func(f [][]int) bool { return len(f) == 0 })
}

// Promise 38: the transversals are the minimal sets that meet every quorum.
func TestPromise38(t *testing.T) {
	must := familyOrFail(t)
	for _, f := range nonempty(someFamilies()) {
		transversals := must(impl.FamilyTransversals(f))
		for _, s := range validSets() {
			misses := slices.ContainsFunc(f, func(quorum []int) bool { return len(impl.SetIntersect(quorum, s)) == 0 })
			if got := impl.FamilyHasQuorum(transversals, s); got == misses {
				t.Fatalf("%v has a quorum of the transversals %v of %v: %v", s, transversals, f, got)
			}
		}
		if want := upsetOf(f).meeting().quorums(); !sameFamily(transversals, want) {
			t.Fatalf("FamilyTransversals(%v) is %v, not %v", f, transversals, want)
		}
	}
}

// Promise 39: the transversals of the transversals are the system.
func TestPromise39(t *testing.T) {
	must := familyOrFail(t)
	for _, f := range nonempty(append(familiesUpTo(5), wideFamilies()...)) {
		if twice := must(impl.FamilyTransversals(must(impl.FamilyTransversals(f)))); !sameFamily(twice, f) {
			t.Fatalf("the transversals of the transversals of %v are %v", f, twice)
		}
	}
}

// Promise 40: the transversals of either are both transversals.
func TestPromise40(t *testing.T) {
	must := familyOrFail(t)
	families := nonempty(someFamilies())
	for i, f := range families {
		transversalsF := must(impl.FamilyTransversals(f))
		for _, g := range families[i:] {
			left := must(impl.FamilyTransversals(must(impl.FamilyEither(f, g))))
			right := must(impl.FamilyBoth(transversalsF, must(impl.FamilyTransversals(g))))
			if !sameFamily(left, right) {
				t.Fatalf("%v and %v: %v differs from %v", f, g, left, right)
			}
		}
	}
}

// Promise 41: a set has a quorum if a quorum is a subset of it, and so have its supersets.
func TestPromise41(t *testing.T) {
	for _, f := range someFamilies() {
		has := upsetOf(f)
		checkHasQuorum(t, f, has)
		for small, s := range validSets() {
			for large, superset := range validSets() {
				if small&large == small && impl.FamilyHasQuorum(f, s) && !impl.FamilyHasQuorum(f, superset) {
					t.Fatalf("%v has a quorum of %v, but %v has not", s, f, superset)
				}
			}
		}
	}
}

func TestHasQuorumOfInvalidArguments(t *testing.T) {
	for _, s := range invalidSets() {
		for _, f := range [][][]int{nil, {{1}}, {{6}}, {{1, 2, 3, 4, 5, 6}}, exactly(1, 6), largestFamily()} {
			if impl.FamilyHasQuorum(f, s) {
				t.Fatalf("%v has a quorum of %v", s, f)
			}
		}
	}
	for _, f := range notFamilies() {
		for _, s := range [][]int{nil, {1}, {6}, {1, 2}, {1, 2, 3, 4, 5, 6}, {7}} {
			if impl.FamilyHasQuorum(f, s) {
				t.Fatalf("%v has a quorum of %d sets: %v", s, len(f), f)
			}
		}
	}
}

// Promise 42: leaving a quorum out is valid; repeating one, or appending a superset of one, is not.
func TestPromise42(t *testing.T) {
	for _, f := range append(familiesUpTo(4), wideFamilies()...) {
		for i, quorum := range f {
			if without := slices.Delete(slices.Clone(f), i, i+1); !impl.FamilyValid(without) {
				t.Fatalf("FamilyValid(%v) is false", without)
			}
			for at := range len(f) + 1 {
				if repeated := slices.Insert(slices.Clone(f), at, quorum); impl.FamilyValid(repeated) {
					t.Fatalf("FamilyValid(%v) is true", repeated)
				}
			}
			for _, s := range validSets() {
				if with := append(slices.Clone(f), s); containsAll(s, quorum) && impl.FamilyValid(with) {
					t.Fatalf("FamilyValid(%v) is true", with)
				}
			}
		}
	}
}

// Promise 43: FamilyBoth distributes over FamilyEither.
func TestPromise43(t *testing.T) {
	must := familyOrFail(t)
	few := fewFamilies()
	for _, f := range few {
		for _, g := range few {
			both := must(impl.FamilyBoth(f, g))
			for _, h := range few {
				left := must(impl.FamilyBoth(f, must(impl.FamilyEither(g, h))))
				right := must(impl.FamilyEither(both, must(impl.FamilyBoth(f, h))))
				if !sameFamily(left, right) {
					t.Fatalf("%v, %v and %v: %v differs from %v", f, g, h, left, right)
				}
			}
		}
	}
}

// Promise 44: each operation absorbs the other.
func TestPromise44(t *testing.T) {
	must := familyOrFail(t)
	families := someFamilies()
	for _, f := range families {
		for _, g := range families {
			either := must(impl.FamilyEither(f, must(impl.FamilyBoth(f, g))))
			both := must(impl.FamilyBoth(f, must(impl.FamilyEither(f, g))))
			if !sameFamily(either, f) || !sameFamily(both, f) {
				t.Fatalf("%v and %v: %v and %v", f, g, either, both)
			}
		}
	}
}

// Promise 45: no member of a quorum can be spared.
func TestPromise45(t *testing.T) {
	must := familyOrFail(t)
	for _, f := range append(familiesUpTo(5), wideFamilies()...) {
		checkNoneSpared(t, f)
	}
	for _, sets := range givenSets() {
		checkNoneSpared(t, must(impl.FamilyMinimize(sets)))
	}
	for _, e := range knownExprs() {
		f := must(impl.FamilyOfExpr(e.text))
		checkNoneSpared(t, f)
		checkNoneSpared(t, must(impl.FamilyTransversals(f)))
		checkNoneSpared(t, must(impl.FamilyEither(f, largestFamily())))
		checkNoneSpared(t, must(impl.FamilyBoth(f, largestFamily())))
	}
}

func checkNoneSpared(t *testing.T, f [][]int) {
	t.Helper()
	for _, quorum := range f {
		if !impl.FamilyHasQuorum(f, quorum) {
			t.Fatalf("%v has no quorum of %v", quorum, f)
		}
		for i := range quorum {
			if rest := slices.Delete(slices.Clone(quorum), i, i+1); impl.FamilyHasQuorum(f, rest) {
				t.Fatalf("%v has a quorum of %v", rest, f)
			}
		}
	}
}

func TestOperationsOnWhatIsNoQuorumSystem(t *testing.T) {
	for _, bad := range notFamilies() {
		if f, ok := impl.FamilyTransversals(bad); ok || len(f) != 0 {
			t.Fatalf("FamilyTransversals of %d sets is %v, %v: %v", len(bad), f, ok, bad)
		}
		for _, operation := range familyOperations() {
			for _, g := range [][][]int{nil, {{1}}, largestFamily(), bad} {
				if f, ok := operation(bad, g); ok || len(f) != 0 {
					t.Fatalf("an operation on %v and %v is %v, %v", bad, g, f, ok)
				}
				if f, ok := operation(g, bad); ok || len(f) != 0 {
					t.Fatalf("an operation on %v and %v is %v, %v", g, bad, f, ok)
				}
			}
		}
	}
}

func familyOperations() []func([][]int, [][]int) ([][]int, bool) {
	return []func([][]int, [][]int) ([][]int, bool){impl.FamilyEither, impl.FamilyBoth}
}

// spareFamily is a list of sets with room behind the list and behind each set.
type spareFamily struct {
	f     [][]int
	lists [][]int // f with what is behind it
	longs [][]int // the sets with what is behind them
}

func newSpareFamily(f [][]int) spareFamily {
	var spare spareFamily
	for _, s := range append(slices.Clone(f), []int{5, 1}, []int{6, 1}) {
		short, long := withSpare(s)
		spare.lists = append(spare.lists, short)
		spare.longs = append(spare.longs, long)
	}
	spare.f = spare.lists[:len(f)]
	return spare
}

func (spare spareFamily) check(t *testing.T, f [][]int) {
	t.Helper()
	want := newSpareFamily(f)
	if !sameFamily(spare.lists, want.lists) || !sameFamily(spare.longs, want.longs) {
		t.Fatalf("%v became %v", want.longs, spare.longs)
	}
}

// listsForRules returns quorum systems and other lists for the tests of the general rules.
func listsForRules() [][][]int {
	return append(fewFamilies(),
		[][]int{{2}, {1}}, [][]int{{1, 3}, {1, 2}, {1}}, [][]int{{1}, nil}, [][]int{{3, 1}}, [][]int{{1}, {7}}, validSets()[1:], append(validSets(), []int{6, 5}))
}

func TestFamilyArgumentsAreNotModified(t *testing.T) {
	for _, f := range listsForRules() {
		a := newSpareFamily(f)
		impl.FamilyValid(a.f)
		minimized, _ := impl.FamilyMinimize(a.f)
		scribbleFamily(minimized)
		transversals, _ := impl.FamilyTransversals(a.f)
		scribbleFamily(transversals)
		for _, s := range someSets() {
			short, long := withSpare(s)
			want := slices.Clone(long)
			impl.FamilyHasQuorum(a.f, short)
			if !slices.Equal(long, want) {
				t.Fatalf("%v became %v", want, long)
			}
		}
		for _, g := range listsForRules() {
			b := newSpareFamily(g)
			for _, operation := range familyOperations() {
				result, _ := operation(a.f, b.f)
				scribbleFamily(result)
				result, _ = operation(a.f, a.f)
				scribbleFamily(result)
			}
			b.check(t, g)
		}
		a.check(t, f)
	}
}

// scribbleFamily overwrites the sets of a result and then the list of them, up to their capacities.
func scribbleFamily(f [][]int) {
	for _, s := range f[:cap(f)] {
		scribble(s)
	}
	f = f[:cap(f)]
	for i := range f {
		f[i] = []int{-77}
	}
}

func TestFamilyResultsShareNoMemory(t *testing.T) {
	for _, f := range listsForRules() {
		checkFreshFamily(t, func() [][]int { r, _ := impl.FamilyMinimize(f); return r })
		checkFreshFamily(t, func() [][]int { r, _ := impl.FamilyTransversals(f); return r })
		for _, operation := range familyOperations() {
			for _, g := range [][][]int{f, nil, {{1, 2, 3, 4, 5, 6}}, largestFamily()} {
				checkFreshFamily(t, func() [][]int { r, _ := operation(f, g); return r })
				checkFreshFamily(t, func() [][]int { r, _ := operation(g, f); return r })
			}
		}
	}
	for _, e := range knownExprs() {
		checkFreshFamily(t, func() [][]int { r, _ := impl.FamilyOfExpr(e.text); return r })
	}
}

// checkFreshFamily writes to each set of one result, and to all of another.
func checkFreshFamily(t *testing.T, call func() [][]int) {
	t.Helper()
	first, second := call(), call()
	want := cloneFamily(second)
	for i := range first {
		scribble(first[i])
		if !sameFamily(first[i+1:], want[i+1:]) {
			t.Fatalf("writing to one set of %v changed it to %v", want, first)
		}
	}
	scribbleFamily(first)
	if third := call(); !sameFamily(second, want) || !sameFamily(third, want) {
		t.Fatalf("writing to a result changed %v to %v and %v", want, second, third)
	}
}

// One set may be given twice as the same slice.
func TestFamiliesOfOneSlice(t *testing.T) {
	must := familyOrFail(t)
	s := []int{1, 2, 3, 4, 5, 6}
	if f := must(impl.FamilyMinimize([][]int{s[:2], s[:1], s[:2], s[1:2], s})); !sameFamily(f, [][]int{{1}, {2}}) {
		t.Errorf("FamilyMinimize is %v", f)
	}
	if impl.FamilyValid([][]int{s, s}) || !impl.FamilyValid([][]int{s[:2], s[2:3], s[3:]}) {
		t.Error("FamilyValid is wrong of sets that share memory")
	}
}

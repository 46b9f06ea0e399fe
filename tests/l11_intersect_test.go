package tests

import (
	"slices"
	"sync"
	"testing"

	"loop.example/flexquorum/impl"
)

// The other tests rely on the pairs being varied.
func TestFamilyPairsCoverTheEdges(t *testing.T) {
	var emptyLeft, emptyRight, emptyBoth, single, largestLeft, largestRight, disjoint, manyDisjoint, oneCommon, manyCommon, notSquare int
	count := func(counter *int, seen bool) {
		if seen {
			*counter++
		}
	}
	for _, pair := range familyPairs() {
		if !isFamily(pair.f) || !isFamily(pair.g) {
			t.Fatalf("%v or %v is not a quorum system", pair.f, pair.g)
		}
		missing := len(slices.DeleteFunc(slices.Clone(pair.common), func(common []int) bool { return len(common) > 0 }))
		count(&emptyLeft, len(pair.f) == 0)
		count(&emptyRight, len(pair.g) == 0)
		count(&emptyBoth, len(pair.f) == 0 && len(pair.g) == 0)
		count(&single, len(pair.f) == 1 && len(pair.g) == 1)
		count(&largestLeft, len(pair.f) == 20 && len(pair.g) > 1 && missing == 0)
		count(&largestRight, len(pair.g) == 20 && len(pair.f) > 1 && missing == 0)
		count(&disjoint, missing == 1 && len(pair.common) > 1)
		count(&manyDisjoint, missing > 1)
		count(&oneCommon, slices.ContainsFunc(pair.common, func(common []int) bool { return len(common) == 1 }))
		count(&manyCommon, slices.ContainsFunc(pair.common, func(common []int) bool { return len(common) > 1 }))
		count(&notSquare, missing == 0 && len(pair.f) > 1 && len(pair.g) > 1 && len(pair.f) != len(pair.g))
	}
	counts := []int{emptyLeft, emptyRight, emptyBoth, single, largestLeft, largestRight, disjoint, manyDisjoint, oneCommon, manyCommon, notSquare}
	if slices.Contains(counts, 0) {
		t.Errorf("numbers of pairs: %v", counts)
	}
}

// certifyOrFail returns the certificate of quorum systems that intersect.
func certifyOrFail(t *testing.T, f [][]int, g [][]int) []int {
	t.Helper()
	cert, ok := impl.IntersectCertify(f, g)
	if !ok || len(cert) != len(f)*len(g) {
		t.Fatalf("IntersectCertify(%v, %v) is %v, %v", f, g, cert, ok)
	}
	return cert
}

// checkFails fails the test unless f and g neither intersect nor have a disjoint pair, as lists of which one is no quorum system.
func checkFails(t *testing.T, f [][]int, g [][]int) {
	t.Helper()
	if impl.Intersects(f, g) {
		t.Fatalf("Intersects(%v, %v) is true", f, g)
	}
	if cert, ok := impl.IntersectCertify(f, g); ok || len(cert) != 0 {
		t.Fatalf("IntersectCertify(%v, %v) is %v, %v", f, g, cert, ok)
	}
	checkNoCounterexample(t, f, g)
}

func checkNoCounterexample(t *testing.T, f [][]int, g [][]int) {
	t.Helper()
	if a, b, ok := impl.IntersectCounterexample(f, g); ok || len(a) != 0 || len(b) != 0 {
		t.Fatalf("IntersectCounterexample(%v, %v) is %v, %v, %v", f, g, a, b, ok)
	}
}

func TestPairsOfTheCertificateByIndex(t *testing.T) {
	f := [][]int{{1, 2}, {1, 3}}
	g := [][]int{{1}, {2, 3}, {2, 4, 5, 6}}
	checkDisjointPair(t, f, g, []int{1, 3}, []int{2, 4, 5, 6})
	if cert := certifyOrFail(t, f, g[:2]); !slices.Equal(cert, []int{1, 2, 1, 3}) {
		t.Errorf("the certificate is %v", cert)
	}
	if impl.IntersectVerify(f, g[:2], []int{1, 1, 2, 3}) {
		t.Error("IntersectVerify accepts the entries in the order of the other quorum system")
	}
	wide := [][]int{{1, 2}, {3, 4}, {5, 6}}
	narrow := [][]int{{1, 3, 5}, {2, 4, 6}}
	if cert := certifyOrFail(t, wide, narrow); !slices.Equal(cert, []int{1, 2, 3, 4, 5, 6}) {
		t.Errorf("the certificate is %v", cert)
	}
	if cert := certifyOrFail(t, narrow, wide); !slices.Equal(cert, []int{1, 3, 5, 2, 4, 6}) {
		t.Errorf("the certificate is %v", cert)
	}
}

func TestCertificatesOfThresholds(t *testing.T) {
	majority := exactly(2, 3)
	if cert := certifyOrFail(t, majority, majority); !slices.Equal(cert, []int{1, 1, 2, 1, 1, 3, 2, 3, 2}) {
		t.Errorf("the certificate of a majority of three members is %v", cert)
	}
	for n := 1; n <= 6; n++ {
		for k := 1; k <= n; k++ {
			for other := 1; other <= n; other++ {
				if got := impl.Intersects(exactly(k, n), exactly(other, n)); got != (k+other > n) {
					t.Errorf("%d and %d of %d members intersect: %v", k, other, n, got)
				}
			}
		}
	}
}

// checkDisjointPair fails the test unless a and b are the first disjoint quorums of f and g.
func checkDisjointPair(t *testing.T, f [][]int, g [][]int, a []int, b []int) {
	t.Helper()
	if gotA, gotB, ok := impl.IntersectCounterexample(f, g); !ok || !slices.Equal(gotA, a) || !slices.Equal(gotB, b) {
		t.Fatalf("IntersectCounterexample(%v, %v) is %v, %v, %v, not %v and %v", f, g, gotA, gotB, ok, a, b)
	}
}

func TestFirstOfSeveralDisjointPairs(t *testing.T) {
	checkDisjointPair(t, [][]int{{1}, {2}}, [][]int{{1}, {2}}, []int{1}, []int{2})
	checkDisjointPair(t, [][]int{{1}, {2}}, [][]int{{3}, {4}}, []int{1}, []int{3})
	checkDisjointPair(t, [][]int{{1, 2}, {2, 3}}, [][]int{{1, 2}, {3, 4}}, []int{1, 2}, []int{3, 4})
	checkDisjointPair(t, [][]int{{1, 2}, {3}}, [][]int{{1, 3}, {2, 3}, {1, 2, 4}}, []int{3}, []int{1, 2, 4})
	checkDisjointPair(t, exactly(1, 6), exactly(1, 6), []int{1}, []int{2})
	checkDisjointPair(t, largestFamily(), largestFamily(), []int{1, 2, 3}, []int{4, 5, 6})
	last := len(largestFamily()) - 1
	checkDisjointPair(t, largestFamily()[last:], largestFamily(), []int{4, 5, 6}, []int{1, 2, 3})
	checkDisjointPair(t, largestFamily()[last:], largestFamily()[:1], []int{4, 5, 6}, []int{1, 2, 3})
}

func TestEmptyQuorumSystemIntersectsAll(t *testing.T) {
	for _, empty := range [][][]int{nil, {}} {
		for _, f := range append(someFamilies(), [][]int{}) {
			checkEmptyCertificate(t, empty, f)
			checkEmptyCertificate(t, f, empty)
		}
	}
}

func checkEmptyCertificate(t *testing.T, f [][]int, g [][]int) {
	t.Helper()
	if !impl.Intersects(f, g) {
		t.Fatalf("Intersects(%v, %v) is false", f, g)
	}
	certifyOrFail(t, f, g)
	checkNoCounterexample(t, f, g)
	if !impl.IntersectVerify(f, g, nil) || !impl.IntersectVerify(f, g, []int{}) {
		t.Fatalf("IntersectVerify(%v, %v) does not accept the empty certificate", f, g)
	}
	for _, cert := range [][]int{{0}, {1}, {6}, {7}, {1, 1}, ofLength(nil, 20), ofLength(nil, len(f)+len(g)+1)} {
		if impl.IntersectVerify(f, g, cert) {
			t.Fatalf("IntersectVerify(%v, %v, %v) is true", f, g, cert)
		}
	}
}

// Promise 56: quorum systems intersect if every pair of quorums has a common member; the order does not matter.
func TestPromise56(t *testing.T) {
	for _, pair := range familyPairs() {
		want := pair.intersect()
		if got, back := impl.Intersects(pair.f, pair.g), impl.Intersects(pair.g, pair.f); got != want || back != want {
			t.Fatalf("Intersects(%v, %v) is %v, and in the other order %v", pair.f, pair.g, got, back)
		}
	}
}

// Promise 57: quorum systems intersect if every quorum of one contains a transversal of the other.
func TestPromise57(t *testing.T) {
	must := familyOrFail(t)
	for _, pair := range familyPairs() {
		if len(pair.f) == 0 {
			continue
		}
		transversals := must(impl.FamilyTransversals(pair.f))
		misses := slices.ContainsFunc(pair.g, func(quorum []int) bool { return !impl.FamilyHasQuorum(transversals, quorum) })
		if got := impl.Intersects(pair.f, pair.g); got == misses {
			t.Fatalf("Intersects(%v, %v) is %v, and the transversals are %v", pair.f, pair.g, got, transversals)
		}
	}
}

// Promise 58: requiring a quorum of another system too keeps the intersection.
func TestPromise58(t *testing.T) {
	must := familyOrFail(t)
	few := fewFamilies()
	for _, pair := range wideIntersectingPairs() {
		if !impl.Intersects(pair.f, pair.g) {
			t.Fatalf("Intersects(%v, %v) is false", pair.f, pair.g)
		}
		for _, h := range few {
			if both := must(impl.FamilyBoth(pair.f, h)); !impl.Intersects(both, pair.g) {
				t.Fatalf("%v intersects %v, but with %v it does not", pair.f, pair.g, h)
			}
		}
	}
}

// Promise 59: there is a certificate if the quorum systems intersect, and it is accepted.
func TestPromise59(t *testing.T) {
	for _, pair := range familyPairs() {
		cert, ok := impl.IntersectCertify(pair.f, pair.g)
		if ok != pair.intersect() || ok != impl.Intersects(pair.f, pair.g) {
			t.Fatalf("IntersectCertify(%v, %v) is %v, %v", pair.f, pair.g, cert, ok)
		}
		if ok && !impl.IntersectVerify(pair.f, pair.g, cert) {
			t.Fatalf("IntersectVerify(%v, %v, %v) is false", pair.f, pair.g, cert)
		}
		if !ok && len(cert) != 0 {
			t.Fatalf("IntersectCertify(%v, %v) is %v, %v", pair.f, pair.g, cert, ok)
		}
	}
}

// Any common members make a certificate, not the smallest ones only.
func TestVerifyAcceptsAnyCommonMembers(t *testing.T) {
	for _, pair := range intersectingPairs() {
		cert := pair.certificate(largest)
		if !impl.IntersectVerify(pair.f, pair.g, cert) {
			t.Fatalf("IntersectVerify(%v, %v, %v) is false", pair.f, pair.g, cert)
		}
		least := pair.certificate(smallest)
		for i, common := range pair.common {
			for _, m := range common {
				if changed := replacedAt(least, i, m); !impl.IntersectVerify(pair.f, pair.g, changed) {
					t.Fatalf("IntersectVerify(%v, %v, %v) is false", pair.f, pair.g, changed)
				}
			}
		}
	}
}

// Promise 60: quorum systems that do not intersect have no certificate.
func TestPromise60(t *testing.T) {
	for _, pair := range disjointPairs() {
		for _, entry := range candidates() {
			cert := pair.certificate(smallest)
			for i, common := range pair.common {
				if len(common) == 0 {
					cert[i] = entry
				}
			}
			for _, tried := range [][]int{cert, slices.Repeat([]int{entry}, len(pair.common))} {
				if impl.IntersectVerify(pair.f, pair.g, tried) {
					t.Fatalf("IntersectVerify(%v, %v, %v) is true", pair.f, pair.g, tried)
				}
			}
		}
	}
}

func TestVerifyOfAllCertificatesOfOneEntry(t *testing.T) {
	for _, a := range validSets()[1:] {
		for _, b := range validSets()[1:] {
			for _, entry := range candidates() {
				want := slices.Contains(a, entry) && slices.Contains(b, entry)
				if got := impl.IntersectVerify([][]int{a}, [][]int{b}, []int{entry}); got != want {
					t.Fatalf("IntersectVerify of %v, %v and %d is %v", a, b, entry, got)
				}
			}
		}
	}
}

func TestVerifyOfAllCertificatesOfTwoEntries(t *testing.T) {
	for _, f := range familiesUpTo(3) {
		for _, g := range familiesUpTo(3) {
			if len(f)*len(g) != 2 {
				continue
			}
			common := newPair(f, g).common
			for _, cert := range shortSlices() {
				want := len(cert) == 2 && slices.Contains(common[0], cert[0]) && slices.Contains(common[1], cert[1])
				if got := impl.IntersectVerify(f, g, cert); got != want {
					t.Fatalf("IntersectVerify(%v, %v, %v) is %v", f, g, cert, got)
				}
			}
		}
	}
}

// Promise 61: an entry that is in one quorum of its pair only, in neither, or not a member spoils a certificate.
func TestPromise61(t *testing.T) {
	for _, pair := range intersectingPairs() {
		cert := certifyOrFail(t, pair.f, pair.g)
		// Of a long certificate about twenty entries are enough.
		for i := 0; i < len(cert); i += 1 + len(cert)/20 {
			for _, entry := range candidates() {
				changed := replacedAt(cert, i, entry)
				if got := impl.IntersectVerify(pair.f, pair.g, changed); got != slices.Contains(pair.common[i], entry) {
					t.Fatalf("IntersectVerify(%v, %v, %v) is %v with another entry at index %d", pair.f, pair.g, changed, got, i)
				}
			}
		}
	}
}

func TestEntriesInOneQuorumOrNeither(t *testing.T) {
	f, g := [][]int{{1, 2}}, [][]int{{2, 3}, {2, 4}}
	if !impl.IntersectVerify(f, g, []int{2, 2}) {
		t.Error("the certificate is not accepted")
	}
	for _, cert := range [][]int{{1, 2}, {2, 1}, {3, 2}, {2, 3}, {2, 4}, {5, 2}, {2, 6}, {0, 2}, {2, 7}, {2, -2}, {2 + 64, 2}, {2, 2 + 256}} {
		if impl.IntersectVerify(f, g, cert) {
			t.Errorf("IntersectVerify(%v, %v, %v) is true", f, g, cert)
		}
	}
}

func TestCertificatesOfTheWrongLength(t *testing.T) {
	for _, pair := range wideIntersectingPairs() {
		cert := certifyOrFail(t, pair.f, pair.g)
		n := len(cert)
		for _, length := range []int{0, 1, len(pair.f), len(pair.g), len(pair.f) + len(pair.g), n / 2, n - 2, n - 1, n, n + 1, n + 2, 2 * n, n + 256, n + 1<<16} {
			if length < 0 {
				continue
			}
			if got := impl.IntersectVerify(pair.f, pair.g, ofLength(cert, length)); got != (length == n) {
				t.Fatalf("IntersectVerify(%v, %v) with %d of %d entries is %v", pair.f, pair.g, length, n, got)
			}
		}
		if impl.IntersectVerify(pair.f, pair.g, cert[1:]) || impl.IntersectVerify(pair.f, pair.g, nil) {
			t.Fatalf("IntersectVerify(%v, %v) accepts too few entries", pair.f, pair.g)
		}
	}
}

// Promise 62: each entry is the smallest common member.
func TestPromise62(t *testing.T) {
	for _, pair := range intersectingPairs() {
		cert := certifyOrFail(t, pair.f, pair.g)
		if want := pair.certificate(smallest); !slices.Equal(cert, want) {
			t.Fatalf("IntersectCertify(%v, %v) is %v, not %v", pair.f, pair.g, cert, want)
		}
		for i, a := range pair.f {
			for k, b := range pair.g {
				if common := impl.SetIntersect(a, b); cert[i*len(pair.g)+k] != common[0] {
					t.Fatalf("IntersectCertify(%v, %v) is %v, but %v and %v have %v", pair.f, pair.g, cert, a, b, common)
				}
			}
		}
	}
}

// Promise 63: the counterexample is the first disjoint pair, if there is one.
func TestPromise63(t *testing.T) {
	for _, pair := range familyPairs() {
		if a, b, found := pair.firstDisjoint(); found {
			checkDisjointPair(t, pair.f, pair.g, a, b)
		} else {
			checkNoCounterexample(t, pair.f, pair.g)
		}
	}
}

// Promise 64: there is either a certificate or a counterexample.
func TestPromise64(t *testing.T) {
	for _, pair := range familyPairs() {
		cert, certified := impl.IntersectCertify(pair.f, pair.g)
		a, b, refuted := impl.IntersectCounterexample(pair.f, pair.g)
		if certified == refuted {
			t.Fatalf("%v and %v have the certificate %v, %v and the counterexample %v, %v, %v", pair.f, pair.g, cert, certified, a, b, refuted)
		}
	}
}

// Promise 65: the transpose of a certificate is one for the other order.
func TestPromise65(t *testing.T) {
	for _, pair := range intersectingPairs() {
		for _, cert := range [][]int{certifyOrFail(t, pair.f, pair.g), pair.certificate(largest)} {
			var transpose []int
			for k := range pair.g {
				for i := range pair.f {
					transpose = append(transpose, cert[i*len(pair.g)+k])
				}
			}
			if !impl.IntersectVerify(pair.g, pair.f, transpose) {
				t.Fatalf("IntersectVerify(%v, %v, %v) is false", pair.g, pair.f, transpose)
			}
		}
	}
}

func TestIntersectionOfWhatIsNoQuorumSystem(t *testing.T) {
	for _, bad := range notFamilies() {
		for _, g := range [][][]int{nil, {{1}}, {{1, 2, 3, 4, 5, 6}}, largestFamily(), bad} {
			checkFails(t, bad, g)
			checkFails(t, g, bad)
			checkNothingVerified(t, bad, g)
			checkNothingVerified(t, g, bad)
		}
	}
}

// checkNothingVerified tries what would be a certificate if f and g were quorum systems.
func checkNothingVerified(t *testing.T, f [][]int, g [][]int) {
	t.Helper()
	certs := [][]int{nil, {}, {1}, {6}}
	if len(f)*len(g) <= 1<<12 {
		certs = append(certs, likelyEntries(f, g))
	}
	for _, cert := range certs {
		if impl.IntersectVerify(f, g, cert) {
			t.Fatalf("IntersectVerify(%v, %v, %v) is true", f, g, cert)
		}
	}
}

func TestIntersectArgumentsAreNotModified(t *testing.T) {
	for _, f := range listsForRules() {
		a := newSpareFamily(f)
		for _, g := range listsForRules() {
			b := newSpareFamily(g)
			useIntersection(t, a.f, b.f)
			useIntersection(t, b.f, a.f)
			useIntersection(t, a.f, a.f)
			b.check(t, g)
		}
		a.check(t, f)
	}
}

// useIntersection calls all functions and overwrites their results.
func useIntersection(t *testing.T, f [][]int, g [][]int) {
	t.Helper()
	impl.Intersects(f, g)
	result, _ := impl.IntersectCertify(f, g)
	for _, entries := range [][]int{result, likelyEntries(f, g), {1, 2}} {
		cert, long := withSpare(entries)
		want := slices.Clone(long)
		impl.IntersectVerify(f, g, cert)
		if !slices.Equal(long, want) {
			t.Fatalf("%v became %v", want, long)
		}
	}
	scribble(result)
	x, y, _ := impl.IntersectCounterexample(f, g)
	scribble(x)
	scribble(y)
}

func TestIntersectResultsShareNoMemory(t *testing.T) {
	for _, f := range listsForRules() {
		for _, g := range listsForRules() {
			checkFresh(t, func() []int { cert, _ := impl.IntersectCertify(f, g); return cert })
			checkFresh(t, func() []int { a, _, _ := impl.IntersectCounterexample(f, g); return a })
			checkFresh(t, func() []int { _, b, _ := impl.IntersectCounterexample(f, g); return b })
			checkApart(t, f, g)
		}
	}
}

// checkApart writes to one quorum of a counterexample up to its capacity, and looks at the other.
func checkApart(t *testing.T, f [][]int, g [][]int) {
	t.Helper()
	a, b, _ := impl.IntersectCounterexample(f, g)
	want := slices.Clone(b)
	scribble(a)
	if !slices.Equal(b, want) {
		t.Fatalf("writing to one quorum changed %v to %v", want, b)
	}
	a, b, _ = impl.IntersectCounterexample(f, g)
	want = slices.Clone(a)
	scribble(b)
	if !slices.Equal(a, want) {
		t.Fatalf("writing to one quorum changed %v to %v", want, a)
	}
}

// Calls at the same time with the same arguments do not disturb each other.
func TestIntersectCallsAtTheSameTime(t *testing.T) {
	pairs := append(wideIntersectingPairs()[:200], newPair(largestFamily(), largestFamily()), newPair(largestFamily(), exactly(4, 6)))
	var callers sync.WaitGroup
	for range 8 {
		callers.Go(func() {
			for _, pair := range pairs {
				want := pair.certificate(smallest)
				cert, ok := impl.IntersectCertify(pair.f, pair.g)
				_, _, refuted := impl.IntersectCounterexample(pair.f, pair.g)
				if ok != pair.intersect() || refuted == ok || ok && !slices.Equal(cert, want) {
					t.Errorf("IntersectCertify(%v, %v) is %v, %v", pair.f, pair.g, cert, ok)
				}
			}
		})
	}
	callers.Wait()
}

// Quorums of both systems may be parts of one slice.
func TestIntersectionOfOneSlice(t *testing.T) {
	s := []int{1, 2, 3, 4, 5, 6}
	f, g := [][]int{s[:2], s[1:3]}, [][]int{s[:1], s[1:2]}
	checkDisjointPair(t, f, g, []int{2, 3}, []int{1})
	if cert := certifyOrFail(t, f, g[1:]); !slices.Equal(cert, []int{2, 2}) {
		t.Errorf("the certificate is %v", cert)
	}
	if !impl.IntersectVerify([][]int{s}, [][]int{s}, s[3:4]) {
		t.Error("a part of a quorum is not accepted as a certificate")
	}
}

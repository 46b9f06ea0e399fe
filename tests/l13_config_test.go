package tests

import (
	"slices"
	"sync"
	"testing"

	"loop.example/flexquorum/impl"
)

// The other tests rely on the configurations being varied.
func TestConfigurationsCoverTheEdges(t *testing.T) {
	var safe, unsafe, singlePrepare, singleAccept, largestPrepare, largestAccept, prepareOnly, acceptOnly, apart int
	count := func(counter *int, seen bool) {
		if seen {
			*counter++
		}
	}
	for _, c := range completeLists() {
		if !c.complete() {
			t.Fatalf("%v is not complete", c)
		}
		left, right := twoLists{Prepare: c.Prepare}.members(), twoLists{Accept: c.Accept}.members()
		count(&safe, c.safe())
		count(&unsafe, !c.safe())
		count(&singlePrepare, c.safe() && len(c.Prepare) == 1 && len(c.Accept) > 1)
		count(&singleAccept, c.safe() && len(c.Prepare) > 1 && len(c.Accept) == 1)
		count(&largestPrepare, c.safe() && len(c.Prepare) == 20)
		count(&largestAccept, c.safe() && len(c.Accept) == 20)
		count(&prepareOnly, c.safe() && !containsAll(right, left))
		count(&acceptOnly, c.safe() && !containsAll(left, right))
		count(&apart, len(left)+len(right) == len(c.members()))
	}
	counts := []int{safe, unsafe, singlePrepare, singleAccept, largestPrepare, largestAccept, prepareOnly, acceptOnly, apart, len(incompleteLists())}
	if slices.Contains(counts, 0) {
		t.Errorf("numbers of configurations: %v", counts)
	}
}

// checkConfig fails the test unless the results of a call are the wanted configuration and true.
func checkConfig(t *testing.T, want twoLists) func(c impl.Config, ok bool) {
	return func(c impl.Config, ok bool) {
		t.Helper()
		if !ok || !sameLists(twoLists(c), want) {
			t.Fatalf("the result is %v, %v, not %v", c, ok, want)
		}
	}
}

// checkNoConfig returns what fails the test unless the results of a call are the zero value and false.
func checkNoConfig(t *testing.T, arguments ...any) func(c impl.Config, ok bool) {
	return func(c impl.Config, ok bool) {
		t.Helper()
		if ok || len(c.Prepare) != 0 || len(c.Accept) != 0 {
			t.Fatalf("the result for %v is %v, %v", arguments, c, ok)
		}
	}
}

// configOrFail returns what takes the results of a call and fails the test unless they are a safe configuration and true.
func configOrFail(t *testing.T) func(c impl.Config, ok bool) impl.Config {
	return func(c impl.Config, ok bool) impl.Config {
		t.Helper()
		if !ok || !twoLists(c).safe() {
			t.Fatalf("the result is %v, %v", c, ok)
		}
		return c
	}
}

func TestDocumentExamplesOfConfigurations(t *testing.T) {
	checkConfig(t, twoLists{[][]int{{1, 2, 3}}, [][]int{{1}, {2}, {3}}})(impl.ConfigOfExprs("3(1,2,3)", "1(1,2,3)"))
	majority := [][]int{{1, 2}, {1, 3}, {2, 3}}
	checkConfig(t, twoLists{majority, majority})(impl.ConfigOfExprs("2(1,2,3)", "2(1,2,3)"))
	checkNoConfig(t, "2(1,2,3)", "1(1,2,3)")(impl.ConfigOfExprs("2(1,2,3)", "1(1,2,3)"))
	checkNoConfig(t, "1(1,2,3)", "2(1,2,3)")(impl.ConfigOfExprs("1(1,2,3)", "2(1,2,3)"))
}

// The names of the fields tell which quorums are which.
func TestSidesOfAConfiguration(t *testing.T) {
	checkConfig(t, twoLists{[][]int{{1}}, [][]int{{1, 2}, {1, 3}}})(impl.ConfigOfExprs("1", "2(1,1(2,3))"))
	checkConfig(t, twoLists{[][]int{{1}, {2, 3}}, [][]int{{1, 2}, {1, 3}}})(impl.ConfigOptimal([][]int{{1, 2}, {1, 3}}))
	checkConfig(t, twoLists{[][]int{{1, 2}}, [][]int{{1}, {2}}})(impl.ConfigOptimal([][]int{{1}, {2}}))
	a := impl.Config{Prepare: [][]int{{1}}, Accept: [][]int{{1, 2}, {1, 3}}}
	b := impl.Config{Prepare: [][]int{{4}, {5}}, Accept: [][]int{{4, 5}}}
	checkConfig(t, twoLists{[][]int{{1, 4}, {1, 5}}, [][]int{{1, 2, 4, 5}, {1, 3, 4, 5}}})(impl.ConfigJoint(a, b))
}

// Promise 76: a configuration is safe if both systems are valid and nonempty and intersect.
func TestPromise76(t *testing.T) {
	for _, c := range completeLists() {
		if got := impl.ConfigSafe(impl.Config(c)); got != c.safe() || got != impl.Intersects(c.Prepare, c.Accept) {
			t.Fatalf("ConfigSafe(%v) is %v", c, got)
		}
	}
}

// An empty system intersects every other one, but makes no safe configuration.
func TestIncompleteConfigurationsAreNotSafe(t *testing.T) {
	for _, c := range append(incompleteLists(), fewIncomplete()...) {
		if impl.ConfigSafe(impl.Config(c)) {
			t.Fatalf("ConfigSafe(%v) is true", c)
		}
	}
	for _, empty := range emptyFamilies() {
		for _, f := range append(someFamilies(), emptyFamilies()...) {
			if !impl.Intersects(empty, f) {
				t.Fatalf("the empty quorum system does not intersect %v", f)
			}
			if impl.ConfigSafe(impl.Config{Prepare: empty, Accept: f}) || impl.ConfigSafe(impl.Config{Prepare: f, Accept: empty}) {
				t.Fatalf("a configuration of %v and no quorums is safe", f)
			}
		}
	}
}

// One disjoint pair is enough, wherever it is.
func TestOneDisjointPairMakesAConfigurationUnsafe(t *testing.T) {
	whole := exactly(4, 6)
	for i, missed := range largestFamily() {
		prepare := slices.Clone(largestFamily())
		if !impl.ConfigSafe(impl.Config{Prepare: prepare, Accept: whole}) {
			t.Fatalf("three and four of six members are not safe")
		}
		disjoint := [][]int{survivors(missed)}
		if impl.ConfigSafe(impl.Config{Prepare: prepare, Accept: disjoint}) || impl.ConfigSafe(impl.Config{Prepare: disjoint, Accept: prepare}) {
			t.Fatalf("quorums with %v and %v are safe", missed, disjoint)
		}
		others := slices.Delete(prepare, i, i+1)
		if !impl.ConfigSafe(impl.Config{Prepare: others, Accept: disjoint}) || !impl.ConfigSafe(impl.Config{Prepare: disjoint, Accept: others}) {
			t.Fatalf("quorums without %v are not safe with %v", missed, disjoint)
		}
	}
}

// Promise 77: the joint configuration is safe, also together with each of its parts.
func TestPromise77(t *testing.T) {
	must := configOrFail(t)
	for _, a := range fewSafe() {
		for _, b := range fewSafe() {
			joint := must(impl.ConfigJoint(impl.Config(a), impl.Config(b)))
			if !impl.ConfigSafe(joint) {
				t.Fatalf("the joint configuration %v of %v and %v is not safe", joint, a, b)
			}
			for _, part := range []twoLists{a, b} {
				if !impl.Intersects(part.Prepare, joint.Accept) || !impl.Intersects(joint.Prepare, part.Accept) {
					t.Fatalf("the joint configuration %v is not safe together with %v", joint, part)
				}
			}
		}
	}
}

func TestQuorumsOfTheJointConfiguration(t *testing.T) {
	mustFamily := familyOrFail(t)
	for i, a := range fewSafe() {
		for _, b := range fewSafe()[i:] {
			checkConfig(t, a.joint(b))(impl.ConfigJoint(impl.Config(a), impl.Config(b)))
			prepare, accept := mustFamily(impl.FamilyBoth(a.Prepare, b.Prepare)), mustFamily(impl.FamilyBoth(a.Accept, b.Accept))
			checkConfig(t, twoLists{prepare, accept})(impl.ConfigJoint(impl.Config(a), impl.Config(b)))
		}
	}
}

// Promise 78: the order of the parts does not matter, and a configuration joined with itself is itself.
func TestPromise78(t *testing.T) {
	must := configOrFail(t)
	few := fewSafe()
	for i, a := range few {
		for _, b := range few[i:] {
			joint := must(impl.ConfigJoint(impl.Config(a), impl.Config(b)))
			checkConfig(t, twoLists(joint))(impl.ConfigJoint(impl.Config(b), impl.Config(a)))
		}
	}
	for _, a := range append(safeLists(), few...) {
		checkConfig(t, a)(impl.ConfigJoint(impl.Config(a), impl.Config(a)))
	}
}

func TestJointOfWhatIsNotSafe(t *testing.T) {
	safe := []twoLists{{[][]int{{1}}, [][]int{{1}}}, {exactly(6, 6), exactly(1, 6)}, {largestFamily(), exactly(4, 6)}}
	for _, bad := range append(unsafeLists(), incompleteLists()...) {
		checkNoJoint(t, bad, bad)
		for _, good := range safe {
			checkNoJoint(t, bad, good)
			checkNoJoint(t, good, bad)
		}
	}
}

func checkNoJoint(t *testing.T, a twoLists, b twoLists) {
	t.Helper()
	checkNoConfig(t, a, b)(impl.ConfigJoint(impl.Config(a), impl.Config(b)))
}

// The joint quorums of these would be safe, but one part is not.
func TestJointOfAnUnsafePart(t *testing.T) {
	unsafe := twoLists{[][]int{{1}}, [][]int{{2}}}
	all := twoLists{exactly(6, 6), exactly(6, 6)}
	if !unsafe.joint(all).safe() {
		t.Fatal("the joint quorums are not safe")
	}
	checkNoJoint(t, unsafe, all)
	checkNoJoint(t, all, unsafe)
	// Each side has a part whose prepare quorums are safe with the other part's accept quorums.
	swapped := twoLists{[][]int{{2}}, [][]int{{1}}}
	checkNoJoint(t, unsafe, swapped)
	checkNoJoint(t, swapped, unsafe)
	for _, incomplete := range fewIncomplete() {
		checkNoJoint(t, incomplete, all)
		checkNoJoint(t, all, incomplete)
		checkNoJoint(t, incomplete, unsafe)
		checkNoJoint(t, unsafe, incomplete)
		checkNoJoint(t, incomplete, incomplete)
	}
}

// Promise 79: expressions make a configuration if every two sets that satisfy them meet.
func TestPromise79(t *testing.T) {
	mustFamily := familyOrFail(t)
	made := 0
	pairs := exprPairs()
	for _, pair := range pairs {
		p, a := pair.prepare, pair.accept
		if !everyMeets(p, a) {
			checkNoConfig(t, p.text, a.text)(impl.ConfigOfExprs(p.text, a.text))
			continue
		}
		made++
		checkConfig(t, twoLists{upset(p.satisfied).quorums(), upset(a.satisfied).quorums()})(impl.ConfigOfExprs(p.text, a.text))
		checkConfig(t, twoLists{mustFamily(impl.FamilyOfExpr(p.text)), mustFamily(impl.FamilyOfExpr(a.text))})(impl.ConfigOfExprs(p.text, a.text))
	}
	if made < 1000 || len(pairs)-made < 1000 {
		t.Errorf("%d of %d pairs of expressions make a configuration", made, len(pairs))
	}
}

func TestConfigurationsOfThresholds(t *testing.T) {
	for n := 1; n <= 6; n++ {
		members := ascendingFrom(1, n)
		for k := 1; k <= n; k++ {
			for other := 1; other <= n; other++ {
				p, _ := impl.ExprThreshold(k, members)
				a, _ := impl.ExprThreshold(other, members)
				if k+other > n {
					checkConfig(t, twoLists{exactly(k, n), exactly(other, n)})(impl.ConfigOfExprs(p, a))
				} else {
					checkNoConfig(t, p, a)(impl.ConfigOfExprs(p, a))
				}
			}
		}
	}
}

func TestConfigurationsOfWhatIsNoExpression(t *testing.T) {
	for _, bad := range malformedExprs() {
		checkNoConfig(t)(impl.ConfigOfExprs(bad, bad))
		for _, good := range []string{"1", "6", "1(1)", "6(1,2,3,4,5,6)", "1(1,2,3,4,5,6)", longestExpr().text} {
			checkNoConfig(t, good)(impl.ConfigOfExprs(bad, good))
			checkNoConfig(t, good)(impl.ConfigOfExprs(good, bad))
		}
	}
}

// Promise 80: an expression is safe with its dual, which gives the optimal prepare quorums.
func TestPromise80(t *testing.T) {
	must, mustFamily := configOrFail(t), familyOrFail(t)
	for _, e := range knownExprs() {
		optimal := must(impl.ConfigOptimal(mustFamily(impl.FamilyOfExpr(e.text))))
		checkConfig(t, twoLists(optimal))(impl.ConfigOfExprs(impl.ExprDual(e.text), e.text))
		checkConfig(t, twoLists(optimal))(impl.ConfigOfExprs(e.dual, e.text))
		checkConfig(t, twoLists{optimal.Accept, optimal.Prepare})(impl.ConfigOfExprs(e.text, e.dual))
	}
}

// Promise 81: there are optimal prepare quorums for all accept quorums, and they are safe.
func TestPromise81(t *testing.T) {
	for _, accept := range nonempty(append(familiesUpTo(5), wideFamilies()...)) {
		c, ok := impl.ConfigOptimal(accept)
		if !ok || !impl.ConfigSafe(c) || !twoLists(c).safe() || !sameFamily(c.Accept, accept) {
			t.Fatalf("ConfigOptimal(%v) is %v, %v", accept, c, ok)
		}
		if want := transversalsOf(accept); !sameFamily(c.Prepare, want) {
			t.Fatalf("the prepare quorums of ConfigOptimal(%v) are %v, not %v", accept, c.Prepare, want)
		}
	}
}

func TestOptimalOfWhatIsNoQuorumSystem(t *testing.T) {
	for _, bad := range append(notFamilies(), emptyFamilies()...) {
		checkNoConfig(t, bad)(impl.ConfigOptimal(bad))
	}
}

// Promise 82: other safe prepare quorums contain optimal ones, of which no member can be spared.
func TestPromise82(t *testing.T) {
	must := configOrFail(t)
	for _, c := range safeLists() {
		optimal := must(impl.ConfigOptimal(c.Accept))
		for _, quorum := range c.Prepare {
			if !slices.ContainsFunc(optimal.Prepare, func(s []int) bool { return containsAll(quorum, s) }) {
				t.Fatalf("%v contains no quorum of %v", quorum, optimal.Prepare)
			}
		}
	}
	for _, accept := range measuredFamilies() {
		for _, quorum := range must(impl.ConfigOptimal(accept)).Prepare {
			checkNoProperSubsetMeets(t, quorum, accept)
		}
	}
}

// checkNoProperSubsetMeets fails the test if a proper subset of s has a common member with every quorum of f.
func checkNoProperSubsetMeets(t *testing.T, s []int, f [][]int) {
	t.Helper()
	for _, subset := range validSets() {
		if len(subset) == len(s) || !containsAll(s, subset) {
			continue
		}
		if newPair([][]int{subset}, f).intersect() {
			t.Fatalf("%v is an optimal prepare quorum, but %v meets all of %v", s, subset, f)
		}
	}
}

// Promise 83: the members of a configuration are those of all its quorums, whether it is safe or not.
func TestPromise83(t *testing.T) {
	for _, c := range completeLists() {
		if got := impl.ConfigMembers(impl.Config(c)); !slices.Equal(got, c.members()) {
			t.Fatalf("ConfigMembers(%v) is %v, not %v", c, got, c.members())
		}
	}
}

func TestMembersOnOneSide(t *testing.T) {
	tests := []struct {
		c    impl.Config
		want []int
	}{
		{impl.Config{Prepare: [][]int{{1}}, Accept: [][]int{{1}}}, []int{1}},
		{impl.Config{Prepare: [][]int{{2, 3}}, Accept: [][]int{{3}}}, []int{2, 3}},
		{impl.Config{Prepare: [][]int{{3}}, Accept: [][]int{{3, 6}}}, []int{3, 6}},
		{impl.Config{Prepare: [][]int{{2, 3}, {3, 5}}, Accept: [][]int{{1, 3}, {3, 6}}}, []int{1, 2, 3, 5, 6}},
		// These are complete, but not safe.
		{impl.Config{Prepare: [][]int{{6}}, Accept: [][]int{{1}}}, []int{1, 6}},
		{impl.Config{Prepare: [][]int{{4, 5}}, Accept: [][]int{{1}, {2, 3}}}, []int{1, 2, 3, 4, 5}},
		{impl.Config{Prepare: exactly(1, 3), Accept: exactly(1, 6)}, []int{1, 2, 3, 4, 5, 6}},
	}
	for _, test := range tests {
		if got := impl.ConfigMembers(test.c); !slices.Equal(got, test.want) {
			t.Errorf("ConfigMembers(%v) is %v, not %v", test.c, got, test.want)
		}
	}
}

func TestMembersOfIncompleteConfigurations(t *testing.T) {
	for _, c := range append(incompleteLists(), fewIncomplete()...) {
		if got := impl.ConfigMembers(impl.Config(c)); len(got) != 0 {
			t.Fatalf("ConfigMembers(%v) is %v", c, got)
		}
	}
}

// Promise 84: a joint configuration adds no members, and each of its quorums contains one of each part.
func TestPromise84(t *testing.T) {
	must := configOrFail(t)
	few := fewSafe()
	for i, a := range few {
		for _, b := range few[i:] {
			joint := must(impl.ConfigJoint(impl.Config(a), impl.Config(b)))
			union := impl.SetUnion(impl.ConfigMembers(impl.Config(a)), impl.ConfigMembers(impl.Config(b)))
			if members := impl.ConfigMembers(joint); !containsAll(union, members) || !slices.Equal(members, twoLists(joint).members()) {
				t.Fatalf("the members of %v are %v, and those of its parts are %v", joint, members, union)
			}
			for _, part := range []twoLists{a, b} {
				checkEachContainsOne(t, joint.Prepare, part.Prepare)
				checkEachContainsOne(t, joint.Accept, part.Accept)
			}
		}
	}
}

// checkEachContainsOne fails the test unless each quorum of f contains a quorum of g.
func checkEachContainsOne(t *testing.T, f [][]int, g [][]int) {
	t.Helper()
	for _, quorum := range f {
		if !slices.ContainsFunc(g, func(s []int) bool { return containsAll(quorum, s) }) {
			t.Fatalf("%v contains no quorum of %v", quorum, g)
		}
	}
}

// Promise 85: the optimal quorums for the optimal quorums are the original ones.
func TestPromise85(t *testing.T) {
	must := configOrFail(t)
	for _, accept := range nonempty(append(familiesUpTo(5), wideFamilies()...)) {
		optimal := must(impl.ConfigOptimal(accept))
		checkConfig(t, twoLists{accept, optimal.Prepare})(impl.ConfigOptimal(optimal.Prepare))
	}
}

func TestOneQuorumAndMaxFamilyQuorums(t *testing.T) {
	for _, quorum := range validSets()[1:] {
		var single [][]int
		for _, m := range quorum {
			single = append(single, []int{m})
		}
		checkConfig(t, twoLists{single, [][]int{quorum}})(impl.ConfigOptimal([][]int{quorum}))
		checkConfig(t, twoLists{[][]int{quorum}, single})(impl.ConfigOptimal(single))
		// With 20 quorums on one side, the only quorum of the other has four members or more.
		many := impl.Config{Prepare: largestFamily(), Accept: [][]int{quorum}}
		few := impl.Config{Prepare: [][]int{quorum}, Accept: largestFamily()}
		if want := len(quorum) >= 4; impl.ConfigSafe(many) != want || impl.ConfigSafe(few) != want {
			t.Fatalf("ConfigSafe of three of six members and %v is %v and %v", quorum, impl.ConfigSafe(many), impl.ConfigSafe(few))
		}
	}
	if len(largestFamily()) != impl.MaxFamily {
		t.Errorf("the largest quorum system has %d quorums", len(largestFamily()))
	}
	checkConfig(t, twoLists{exactly(4, 6), largestFamily()})(impl.ConfigOptimal(largestFamily()))
	checkConfig(t, twoLists{exactly(4, 6), largestFamily()})(impl.ConfigOfExprs("4(1,2,3,4,5,6)", "3(1,2,3,4,5,6)"))
	checkConfig(t, twoLists{largestFamily(), exactly(4, 6)})(impl.ConfigOfExprs("3(1,2,3,4,5,6)", "4(1,2,3,4,5,6)"))
}

// spareLists is a configuration with room behind all its slices.
type spareLists struct {
	prepare spareFamily
	accept  spareFamily
}

func newSpareLists(c twoLists) spareLists {
	return spareLists{newSpareFamily(c.Prepare), newSpareFamily(c.Accept)}
}

func (spare spareLists) config() impl.Config {
	return impl.Config{Prepare: spare.prepare.f, Accept: spare.accept.f}
}

func (spare spareLists) check(t *testing.T, c twoLists) {
	t.Helper()
	spare.prepare.check(t, c.Prepare)
	spare.accept.check(t, c.Accept)
}

// listsForConfigRules returns safe, unsafe and incomplete configurations for the tests of the general rules.
func listsForConfigRules() []twoLists {
	all := append(fewIncomplete(), fewSafe()...)
	for i, c := range unsafeLists() {
		if i%97 == 0 {
			all = append(all, c)
		}
	}
	return all
}

func TestConfigArgumentsAreNotModified(t *testing.T) {
	for _, c := range listsForConfigRules() {
		a := newSpareLists(c)
		impl.ConfigSafe(a.config())
		scribble(impl.ConfigMembers(a.config()))
		scribbleConfig(impl.ConfigOptimal(a.config().Prepare))
		scribbleConfig(impl.ConfigOptimal(a.config().Accept))
		scribbleConfig(impl.ConfigJoint(a.config(), a.config()))
		a.check(t, c)
		for _, d := range []twoLists{{}, {exactly(6, 6), exactly(1, 6)}, {largestFamily(), exactly(4, 6)}, {[][]int{{1}}, [][]int{{2}}}} {
			b := newSpareLists(d)
			scribbleConfig(impl.ConfigJoint(a.config(), b.config()))
			scribbleConfig(impl.ConfigJoint(b.config(), a.config()))
			b.check(t, d)
		}
		a.check(t, c)
	}
}

// scribbleConfig takes the results of a call and overwrites the configuration.
func scribbleConfig(c impl.Config, _ bool) {
	scribbleFamily(c.Prepare)
	scribbleFamily(c.Accept)
}

func TestConfigResultsShareNoMemory(t *testing.T) {
	for _, c := range listsForConfigRules() {
		checkFresh(t, func() []int { return impl.ConfigMembers(impl.Config(c)) })
		checkFreshConfig(t, func() (impl.Config, bool) { return impl.ConfigJoint(impl.Config(c), impl.Config(c)) })
		checkFreshConfig(t, func() (impl.Config, bool) { return impl.ConfigOptimal(c.Prepare) })
		checkFreshConfig(t, func() (impl.Config, bool) { return impl.ConfigOptimal(c.Accept) })
		all := impl.Config{Prepare: exactly(6, 6), Accept: exactly(1, 6)}
		checkFreshConfig(t, func() (impl.Config, bool) { return impl.ConfigJoint(impl.Config(c), all) })
		checkFreshConfig(t, func() (impl.Config, bool) { return impl.ConfigJoint(all, impl.Config(c)) })
	}
	for _, e := range knownExprs() {
		checkFreshConfig(t, func() (impl.Config, bool) { return impl.ConfigOfExprs(e.dual, e.text) })
		checkFreshConfig(t, func() (impl.Config, bool) { return impl.ConfigOfExprs(e.text, e.text) })
	}
}

// checkFreshConfig writes to one side of a result and looks at the other, and at the results of other calls.
func checkFreshConfig(t *testing.T, call func() (impl.Config, bool)) {
	t.Helper()
	checkFreshFamily(t, func() [][]int { c, _ := call(); return c.Prepare })
	checkFreshFamily(t, func() [][]int { c, _ := call(); return c.Accept })
	first, _ := call()
	second, _ := call()
	want := twoLists{cloneFamily(first.Prepare), cloneFamily(first.Accept)}
	scribbleFamily(first.Prepare)
	scribbleFamily(second.Accept)
	if !sameFamily(first.Accept, want.Accept) || !sameFamily(second.Prepare, want.Prepare) {
		t.Fatalf("writing to one side of %v changed the other to %v and %v", want, first.Accept, second.Prepare)
	}
}

// Both sides may be the same list, and quorums may be parts of one slice.
func TestConfigurationsOfOneSlice(t *testing.T) {
	s := []int{1, 2, 3, 4, 5, 6}
	shared := [][]int{s[:2], s[1:3]}
	c := impl.Config{Prepare: shared, Accept: shared}
	if !impl.ConfigSafe(c) || !slices.Equal(impl.ConfigMembers(c), []int{1, 2, 3}) {
		t.Errorf("ConfigSafe is %v and ConfigMembers is %v", impl.ConfigSafe(c), impl.ConfigMembers(c))
	}
	checkFreshConfig(t, func() (impl.Config, bool) { return impl.ConfigJoint(c, c) })
	checkConfig(t, twoLists{shared, shared})(impl.ConfigJoint(c, c))
	checkConfig(t, twoLists{[][]int{{2}, {1, 3}}, shared})(impl.ConfigOptimal(shared))
	if want := ascendingFrom(1, 6); !slices.Equal(s, want) {
		t.Errorf("the shared slice became %v", s)
	}
}

// Calls at the same time, and calls that fail before, change nothing.
func TestConfigurationsKeepNoState(t *testing.T) {
	few := fewSafe()
	var callers sync.WaitGroup
	for range 4 {
		callers.Go(func() {
			for i, c := range few {
				d := few[(i+7)%len(few)]
				impl.ConfigSafe(impl.Config{Prepare: c.Prepare})
				impl.ConfigMembers(impl.Config{Prepare: [][]int{{2}, {1}}, Accept: c.Accept})
				joint, ok := impl.ConfigJoint(impl.Config(c), impl.Config(d))
				if !ok || !sameLists(twoLists(joint), c.joint(d)) || !impl.ConfigSafe(impl.Config(c)) {
					t.Errorf("ConfigJoint(%v, %v) is %v, %v", c, d, joint, ok)
				}
			}
		})
	}
	callers.Wait()
}

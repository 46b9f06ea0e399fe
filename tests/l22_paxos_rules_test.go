package tests

import (
	"math/rand/v2"
	"slices"
	"sync"
	"testing"

	"loop.example/flexquorum/impl"
)

// baseRun is a consistent run with votes for several proposals, and with a proposal that has none.
func baseRun() runLists {
	return runLists{
		majorityOfThree(),
		[]state{{9, 5, 7}, {9, 9, 8}, {5, 5, 7}, {20, 3, 99}, {20, 0, 0}, {}},
		[]ballotVotes{{3, 99, []int{1, 4}}, {5, 7, []int{1, 3}}, {9, 8, []int{2}}, {20, 1, nil}},
	}
}

// votersOfTwenty is a consistent run in which all members voted for ballot 20, so that they may have voted in every other one.
func votersOfTwenty() runLists {
	everyone := []int{1, 2, 3, 4, 5, 6}
	return runLists{majorityOfThree(), slices.Repeat([]state{{20, 20, 9}}, 6), []ballotVotes{{4, 7, nil}, {20, 9, everyone}}}
}

// changed returns the run after a change of a copy.
func changed(r runLists, change func(r *runLists)) runLists {
	r = cloneRun(r)
	change(&r)
	return r
}

// runsWithBadProposals returns runs in which only a ballot, a value or a vote set is not valid.
func runsWithBadProposals() []runLists {
	var all []runLists
	for _, ballot := range append(oddBallots(), 20) {
		idle := runLists{config: majorityOfThree(), acceptors: make([]state, 6)}
		if ballot != 20 {
			idle.proposals = []ballotVotes{{ballot, 7, nil}}
			all = append(all, idle)
		}
		all = append(all, changed(votersOfTwenty(), func(r *runLists) { r.proposals = append(r.proposals, ballotVotes{ballot, 9, nil}) }))
		all = append(all, changed(votersOfTwenty(), func(r *runLists) { r.proposals[0].Ballot = ballot }))
	}
	for _, value := range oddValues() {
		all = append(all, changed(baseRun(), func(r *runLists) { r.proposals[3].Value = value }))
		all = append(all, changed(votersOfTwenty(), func(r *runLists) { r.proposals[0].Value = value }))
	}
	for _, s := range invalidSets() {
		all = append(all, changed(votersOfTwenty(), func(r *runLists) { r.proposals[0].Votes = s }))
	}
	return append(all, runsWithBadOrder()...)
}

// runsWithBadOrder returns runs in which only the ballots are not ascending.
func runsWithBadOrder() []runLists {
	all := []runLists{
		changed(votersOfTwenty(), func(r *runLists) { slices.Reverse(r.proposals) }),
		changed(votersOfTwenty(), func(r *runLists) { r.proposals = slices.Repeat(r.proposals[1:], 2) }),
		changed(votersOfTwenty(), func(r *runLists) { r.proposals = append(r.proposals, r.proposals[0]) }),
		changed(baseRun(), func(r *runLists) { r.proposals = slices.Repeat(r.proposals, 2) }),
		changed(baseRun(), func(r *runLists) { r.proposals = slices.Repeat(r.proposals, 1000) }),
	}
	for i := range baseRun().proposals {
		all = append(all, changed(baseRun(), func(r *runLists) { r.proposals = slices.Insert(r.proposals, i, r.proposals[i]) }))
		if i > 0 {
			all = append(all, changed(baseRun(), func(r *runLists) { r.proposals[i-1], r.proposals[i] = r.proposals[i], r.proposals[i-1] }))
		}
	}
	return all
}

// runsWithBadAcceptors returns runs in which the number of acceptors, or one of them, is not valid.
func runsWithBadAcceptors() []runLists {
	idle := runLists{config: majorityOfThree(), acceptors: make([]state, 6)}
	var all []runLists
	for _, count := range []int{0, 1, 3, 5, 7, 12, 1000} {
		all = append(all, changed(idle, func(r *runLists) { r.acceptors = make([]state, count) }))
		all = append(all, changed(baseRun(), func(r *runLists) { r.acceptors = slices.Repeat(r.acceptors, 200)[:count] }))
	}
	for i, bad := range invalidStates() {
		all = append(all, changed(idle, func(r *runLists) { r.acceptors[i%6] = bad }))
		if bad.Accepted >= 1 && bad.Accepted <= 20 {
			// Its vote bears it out.
			all = append(all, changed(idle, func(r *runLists) {
				r.acceptors[i%6] = bad
				r.proposals = []ballotVotes{{bad.Accepted, bad.Value, []int{i%6 + 1}}}
			}))
		}
	}
	return all
}

// runsWithBadVotes returns runs in which only the votes and the acceptors do not agree.
func runsWithBadVotes() []runLists {
	var all []runLists
	add := func(change func(r *runLists)) { all = append(all, changed(baseRun(), change)) }
	// The voter has accepted nothing, or a lower ballot.
	add(func(r *runLists) { r.proposals[0].Votes = []int{1, 4, 5} })
	add(func(r *runLists) { r.proposals[0].Votes = []int{1, 4, 6} })
	add(func(r *runLists) { r.proposals[1].Votes = []int{1, 3, 4} })
	add(func(r *runLists) { r.proposals[2].Votes = []int{1, 2} })
	add(func(r *runLists) { r.proposals[3].Votes = []int{4} })
	add(func(r *runLists) { r.proposals[3].Votes = []int{5} })
	add(func(r *runLists) { r.acceptors[0] = state{9, 0, 0} })
	add(func(r *runLists) { r.acceptors[0] = state{} })
	// The accepted ballot has no proposal, or another value.
	add(func(r *runLists) { r.proposals = nil })
	for i := range 3 {
		add(func(r *runLists) { r.proposals = slices.Delete(r.proposals, i, i+1) })
		add(func(r *runLists) { r.proposals[i].Value = 50 })
		add(func(r *runLists) { r.proposals[i].Ballot++ })
		add(func(r *runLists) { r.proposals[i].Votes = nil })
	}
	add(func(r *runLists) { r.acceptors[5] = state{2, 2, 7} })
	add(func(r *runLists) { r.acceptors[5] = state{4, 4, 99} })
	add(func(r *runLists) { r.acceptors[1].Value = 7 })
	add(func(r *runLists) { r.acceptors[2].Value = 8 })
	// The accepted ballot has a proposal with the value, but no vote of the member.
	add(func(r *runLists) { r.acceptors[5] = state{3, 3, 99} })
	add(func(r *runLists) { r.acceptors[5] = state{20, 20, 1} })
	add(func(r *runLists) { r.proposals[1].Votes = []int{1} })
	add(func(r *runLists) { r.proposals[1].Votes = []int{3} })
	return all
}

// inconsistentRuns returns runs with every fault that the document names, alone as far as it can be.
func inconsistentRuns() []runLists {
	all := []runLists{{}, {config: majorityOfThree()}, {acceptors: make([]state, 6)}}
	for _, c := range fewIncomplete() {
		all = append(all, runLists{config: c, acceptors: make([]state, 6)}, changed(baseRun(), func(r *runLists) { r.config = c }))
	}
	return slices.Concat(all, runsWithBadAcceptors(), runsWithBadProposals(), runsWithBadVotes())
}

// unusualRuns returns consistent runs that hardly any script leads to, or none.
func unusualRuns() []runLists {
	all := []runLists{baseRun(), votersOfTwenty()}
	add := func(r runLists, change func(r *runLists)) { all = append(all, changed(r, change)) }
	idle := runLists{config: majorityOfThree(), acceptors: make([]state, 6)}
	add(idle, func(r *runLists) { r.acceptors[5].Promised = 20 })
	// Nobody has promised the ballots of the proposals, and nobody has voted.
	add(idle, func(r *runLists) {
		for ballot := 1; ballot <= 20; ballot++ {
			r.proposals = append(r.proposals, ballotVotes{ballot, 100 - ballot, nil})
		}
	})
	// The voters have accepted a higher ballot since, with or without a vote for those between.
	add(votersOfTwenty(), func(r *runLists) { r.proposals[0].Votes = []int{1, 2, 3, 4, 5, 6} })
	add(votersOfTwenty(), func(r *runLists) { r.proposals[0].Votes = []int{6} })
	add(votersOfTwenty(), func(r *runLists) { r.proposals = r.proposals[1:] })
	add(votersOfTwenty(), func(r *runLists) { r.proposals[0].Ballot = 19 })
	// The configuration is not safe, and two values are chosen.
	for _, c := range unsafeForRuns() {
		add(votersOfTwenty(), func(r *runLists) { r.config, r.proposals[0].Votes = c, []int{1, 2, 3, 4, 5, 6} })
	}
	return all
}

func checkNoRun(t *testing.T, arguments ...any) func(r impl.Run, ok bool) {
	return func(r impl.Run, ok bool) {
		t.Helper()
		if ok || !sameRun(plainRun(r), runLists{}) {
			t.Fatalf("the result for %v is %v, %v", arguments, r, ok)
		}
	}
}

func TestUnusualRunsAreConsistent(t *testing.T) {
	for _, r := range unusualRuns() {
		h := historyOf(r)
		if !r.consistent() || !impl.RunValid(implRun(r)) {
			t.Fatalf("RunValid(%v) is %v", r, impl.RunValid(implRun(r)))
		}
		if got := impl.RunChosen(implRun(r)); !slices.Equal(got, h.chosen(r.config)) {
			t.Errorf("RunChosen(%v) is %v", r, got)
		}
		for ballot := 1; ballot <= 20; ballot++ {
			for _, members := range validSets() {
				prepared, prepares := h.prepare(r.config, ballot, 42, members)
				checkRun(t, prepared.run(r.config), prepares)(impl.RunPrepare(implRun(r), ballot, 42, members))
				accepted, accepts := h.accept(ballot, members)
				checkRun(t, accepted.run(r.config), accepts)(impl.RunAccept(implRun(r), ballot, members))
			}
		}
	}
}

// Also where a step would fail in any case: invalid arguments come first.
func TestInconsistentRuns(t *testing.T) {
	for _, r := range inconsistentRuns() {
		if r.consistent() {
			t.Fatalf("%v is consistent", r)
		}
		if impl.RunValid(implRun(r)) || len(impl.RunChosen(implRun(r))) != 0 {
			t.Fatalf("RunValid(%v) is %v, and RunChosen is %v", r, impl.RunValid(implRun(r)), impl.RunChosen(implRun(r)))
		}
		for _, ballot := range []int{0, 1, 3, 20} {
			for _, members := range [][]int{nil, {1, 2, 3, 4, 5, 6}, {2, 1}} {
				checkNoRun(t, r, ballot, members)(impl.RunPrepare(implRun(r), ballot, 7, members))
				checkNoRun(t, r, ballot, members)(impl.RunAccept(implRun(r), ballot, members))
			}
		}
	}
}

// altered changes one number or the length of one slice of a consistent run.
func altered(random *rand.Rand, r runLists) runLists {
	r = cloneRun(r)
	small := random.IntN(24) - 1
	if len(r.proposals) == 0 || random.IntN(2) == 0 {
		a := &r.acceptors[random.IntN(6)]
		*[]*int{&a.Promised, &a.Accepted, &a.Value}[random.IntN(3)] = small
		return r
	}
	at := random.IntN(len(r.proposals))
	p := &r.proposals[at]
	switch random.IntN(6) {
	case 0:
		p.Ballot = small
	case 1:
		p.Value = r.proposals[random.IntN(len(r.proposals))].Value
	case 2:
		r.proposals = slices.Delete(r.proposals, at, at+1)
	case 3:
		p.Votes = validSets()[random.IntN(64)]
	case 4:
		p.Votes = slices.Insert(p.Votes, random.IntN(len(p.Votes)+1), random.IntN(8))
	case 5:
		if len(p.Votes) > 0 {
			i := random.IntN(len(p.Votes))
			p.Votes = slices.Delete(p.Votes, i, i+1)
		}
	}
	return r
}

func TestConsistencyOfAlteredRuns(t *testing.T) {
	random := rand.New(rand.NewPCG(22, 109))
	var consistent, not int
	for _, c := range configsForRuns() {
		for _, h := range historiesOf(c) {
			for range 6 {
				r := altered(random, h.run(c))
				want := r.consistent()
				if want {
					consistent++
				} else {
					not++
				}
				if impl.RunValid(implRun(r)) != want {
					t.Fatalf("RunValid(%v) is %v", r, !want)
				}
			}
		}
	}
	if consistent < 1000 || not < 1000 {
		t.Errorf("%d consistent runs and %d others", consistent, not)
	}
}

func TestStepsWithInvalidArguments(t *testing.T) {
	for _, r := range append(unusualRuns(), runLists{config: majorityOfThree(), acceptors: make([]state, 6)}) {
		run := implRun(r)
		for _, members := range [][]int{nil, {1}, {1, 2}, {1, 2, 3, 4, 5, 6}} {
			for _, ballot := range oddBallots() {
				checkNoRun(t, r, ballot, members)(impl.RunPrepare(run, ballot, 7, members))
				checkNoRun(t, r, ballot, members)(impl.RunAccept(run, ballot, members))
			}
			for _, value := range oddValues() {
				for _, ballot := range []int{1, 3, 4, 20, 0} {
					checkNoRun(t, r, ballot, value, members)(impl.RunPrepare(run, ballot, value, members))
				}
			}
		}
	}
}

func TestStepsWithInvalidMemberSets(t *testing.T) {
	for _, r := range []runLists{baseRun(), votersOfTwenty(), {config: majorityOfThree(), acceptors: make([]state, 6)}} {
		run := implRun(r)
		for _, s := range invalidSets() {
			for _, ballot := range []int{1, 5, 20, 0} {
				checkNoRun(t, r, ballot, s)(impl.RunPrepare(run, ballot, 7, s))
				checkNoRun(t, r, ballot, s)(impl.RunAccept(run, ballot, s))
			}
			checkNoRun(t, r, s)(impl.RunPrepare(run, 5, 0, s))
		}
	}
}

func TestRunsOfIncompleteConfigurations(t *testing.T) {
	steps := implSteps([]move{prepareStep(1, 7, 1, 2, 3, 4, 5, 6), acceptStep(1, 1, 2, 3, 4, 5, 6)})
	for _, c := range incompleteLists() {
		checkNoRun(t, c)(impl.RunNew(impl.Config(c)))
	}
	for _, c := range fewIncomplete() {
		checkNoRun(t, c)(impl.RunNew(impl.Config(c)))
		checkNoRun(t, c)(impl.RunScript(impl.Config(c), nil))
		checkNoRun(t, c)(impl.RunScript(impl.Config(c), steps))
		checkNoRun(t, c)(impl.RunScript(impl.Config(c), make([]impl.Step, 31)))
	}
}

// slice is one slice of a run or an argument: writing overwrites it up to its capacity and returns what takes that back.
type slice struct {
	write func() func()
	same  func() bool
}

// sliceOf returns a slice whose elements are compared by equal.
func sliceOf[E any](s []E, other E, equal func(a E, b E) bool) slice {
	all := s[:cap(s)]
	was := slices.Clone(all)
	return slice{
		write: func() func() {
			for i := range all {
				all[i] = other
			}
			return func() { copy(all, was) }
		},
		same: func() bool { return slices.EqualFunc(all, was, equal) },
	}
}

func numbersOf(s []int) slice {
	return sliceOf(s, -77, func(a int, b int) bool { return a == b })
}

// sameSlice reports whether a and b are one slice, as far as that can be seen, whatever is in it.
func sameSlice(a []int, b []int) bool {
	return len(a) == len(b) && (len(a) == 0 || &a[0] == &b[0])
}

func slicesOfFamily(f [][]int) []slice {
	list := []slice{sliceOf(f, []int{-77}, sameSlice)}
	for _, s := range f {
		list = append(list, numbersOf(s))
	}
	return list
}

func slicesOfConfig(c impl.Config) []slice {
	return append(slicesOfFamily(c.Prepare), slicesOfFamily(c.Accept)...)
}

func slicesOfRun(r impl.Run) []slice {
	list := slicesOfConfig(r.Config)
	list = append(list, sliceOf(r.Acceptors, impl.Acceptor{Value: -77}, func(a impl.Acceptor, b impl.Acceptor) bool { return a == b }))
	list = append(list, sliceOf(r.Proposals, impl.Proposal{Votes: []int{-77}}, func(p impl.Proposal, q impl.Proposal) bool {
		return p.Ballot == q.Ballot && p.Value == q.Value && sameSlice(p.Votes, q.Votes)
	}))
	for _, p := range r.Proposals {
		list = append(list, numbersOf(p.Votes))
	}
	return list
}

func slicesOfSteps(steps []impl.Step) []slice {
	list := []slice{sliceOf(steps, impl.Step{Kind: -77, Members: []int{-77}}, func(s impl.Step, u impl.Step) bool {
		return s.Kind == u.Kind && s.Ballot == u.Ballot && s.Value == u.Value && sameSlice(s.Members, u.Members)
	})}
	for _, s := range steps {
		list = append(list, numbersOf(s.Members))
	}
	return list
}

// checkSlicesApart writes to each of the slices, up to its capacity, and looks at the others.
func checkSlicesApart(t *testing.T, list []slice) {
	t.Helper()
	for i, s := range list {
		undo := s.write()
		for k, other := range list {
			if i != k && !other.same() {
				t.Fatalf("slices %d and %d share memory", i, k)
			}
		}
		undo()
	}
}

// spareRun returns r with room behind all its slices.
func spareRun(r runLists) impl.Run {
	run := implRun(r)
	run.Config = newSpareLists(r.config).config()
	run.Acceptors = slices.Grow(run.Acceptors, 10)
	run.Proposals = slices.Grow(run.Proposals, 30)
	for i, p := range run.Proposals {
		run.Proposals[i].Votes, _ = withSpare(p.Votes)
	}
	return run
}

// runsForRules returns consistent and other runs for the tests of the general rules.
func runsForRules() []runLists {
	all := append(unusualRuns(), runsWithBadVotes()...)
	for i, r := range inconsistentRuns() {
		if i%400 == 0 {
			all = append(all, r)
		}
	}
	for i, c := range configsForRuns() {
		for k, h := range historiesOf(c) {
			if (i+k)%61 == 0 {
				all = append(all, h.run(c))
			}
		}
	}
	return all
}

// Neither the arguments are modified, nor do any two slices of the arguments and of all results share memory.
func TestRunsShareNoMemory(t *testing.T) {
	for i, r := range runsForRules() {
		given := spareRun(r)
		members, long := withSpare(validSets()[63-i%8])
		list := append(slicesOfRun(given), numbersOf(long))
		check := func(results ...slice) {
			t.Helper()
			if slices.ContainsFunc(list, func(s slice) bool { return !s.same() }) {
				t.Fatalf("a call modified %v or %v", r, long)
			}
			list = append(list, results...)
		}
		impl.RunValid(given)
		check()
		for range 2 {
			check(numbersOf(impl.RunChosen(given)))
			for ballot := i%5 + 1; ballot <= 20; ballot += 5 {
				prepared, _ := impl.RunPrepare(given, ballot, 42, members)
				check(slicesOfRun(prepared)...)
				accepted, _ := impl.RunAccept(given, ballot, members)
				check(slicesOfRun(accepted)...)
			}
			fresh, _ := impl.RunNew(given.Config)
			check(slicesOfRun(fresh)...)
		}
		checkSlicesApart(t, list)
	}
}

func TestScriptsShareNoMemory(t *testing.T) {
	configs := append(configsForRuns(), fewIncomplete()...)
	for i, script := range append(scriptsForRuns(), invalidMoves()[:30], invalidMoves()[:31], invalidMoves()[30:60]) {
		c := newSpareLists(configs[i%len(configs)]).config()
		steps := slices.Grow(implSteps(script), 40)
		for k, s := range steps {
			steps[k].Members, _ = withSpare(s.Members)
		}
		list := append(slicesOfConfig(c), slicesOfSteps(steps)...)
		first, _ := impl.RunScript(c, steps)
		list = append(list, slicesOfRun(first)...)
		second, _ := impl.RunScript(c, steps)
		if slices.ContainsFunc(list, func(s slice) bool { return !s.same() }) {
			t.Fatalf("a call modified %v or %v", c, steps)
		}
		checkSlicesApart(t, append(list, slicesOfRun(second)...))
	}
}

// The parts of an argument may share memory: a step reads them only.
func TestRunsOfOneSlice(t *testing.T) {
	s := []int{1, 2, 3, 4, 5, 6}
	shared := [][]int{s[:2], s[1:3]}
	r := impl.Run{Config: impl.Config{Prepare: shared, Accept: shared}, Acceptors: make([]impl.Acceptor, 6)}
	for i := range 3 {
		r.Acceptors[i] = impl.Acceptor{Promised: 4, Accepted: 4, Value: 7}
	}
	r.Proposals = []impl.Proposal{{Ballot: 2, Value: 7, Votes: s[:1]}, {Ballot: 4, Value: 7, Votes: s[:3]}}
	prepared, ok := impl.RunPrepare(r, 5, 8, s[1:4])
	accepted, fine := impl.RunAccept(prepared, 5, s[2:4])
	want := runLists{twoLists{[][]int{{1, 2}, {2, 3}}, [][]int{{1, 2}, {2, 3}}}, []state{{4, 4, 7}, {5, 4, 7}, {5, 5, 7}, {5, 5, 7}, {}, {}}, []ballotVotes{{2, 7, []int{1}}, {4, 7, []int{1, 2, 3}}, {5, 7, []int{3, 4}}}}
	checkRun(t, want, true)(accepted, ok && fine)
	if !slices.Equal(s, ascendingFrom(1, 6)) {
		t.Errorf("the shared slice became %v", s)
	}
	checkSlicesApart(t, append(slicesOfRun(accepted), numbersOf(s)))
}

// A nil slice and an empty one are the same.
func TestNilAndEmptySlicesOfRuns(t *testing.T) {
	c := impl.Config(majorityOfThree())
	acceptors := make([]impl.Acceptor, 6)
	for _, proposals := range [][]impl.Proposal{nil, {}, {{Ballot: 3, Value: 7}}, {{Ballot: 3, Value: 7, Votes: []int{}}}} {
		r := impl.Run{Config: c, Acceptors: acceptors, Proposals: proposals}
		if !impl.RunValid(r) {
			t.Fatalf("RunValid(%v) is false", r)
		}
		for _, members := range [][]int{nil, {}} {
			checkRun(t, plainRun(r), false)(impl.RunPrepare(r, 3, 7, members))
			checkRun(t, plainRun(r), false)(impl.RunAccept(r, 3, members))
		}
	}
}

// Calls at the same time, and calls that fail before, change nothing.
func TestRunsKeepNoState(t *testing.T) {
	scripts, configs, bad := scriptsForRuns(), configsForRuns(), runsWithBadVotes()
	var callers sync.WaitGroup
	for caller := range 4 {
		callers.Go(func() {
			for i, script := range scripts {
				c := configs[(i+caller)%len(configs)]
				impl.RunPrepare(implRun(bad[i%len(bad)]), 3, 7, []int{1, 2, 3})
				impl.RunAccept(implRun(bad[i%len(bad)]), 3, []int{1, 2, 3})
				impl.RunScript(impl.Config(c), make([]impl.Step, 31))
				h := after(c, script)
				r, ok := impl.RunScript(impl.Config(c), implSteps(script))
				if !ok || !sameRun(plainRun(r), h.run(c)) || !slices.Equal(impl.RunChosen(r), h.chosen(c)) {
					t.Errorf("RunScript(%v, %v) is %v, %v", c, script, r, ok)
				}
				want, wantOk := h.prepare(c, i%20+1, 42, []int{1, 2, 3})
				if got, ok := impl.RunPrepare(r, i%20+1, 42, []int{1, 2, 3}); ok != wantOk || !sameRun(plainRun(got), want.run(c)) {
					t.Errorf("RunPrepare(%v, %d) is %v, %v", r, i%20+1, got, ok)
				}
			}
		})
	}
	callers.Wait()
}

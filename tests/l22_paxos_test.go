package tests

import (
	"slices"
	"testing"

	"loop.example/flexquorum/impl"
)

// implRun returns r in new memory.
func implRun(r runLists) impl.Run {
	r = cloneRun(r)
	run := impl.Run{Config: impl.Config(r.config), Acceptors: acceptors(r.acceptors)}
	for _, p := range r.proposals {
		run.Proposals = append(run.Proposals, impl.Proposal(p))
	}
	return run
}

func plainRun(r impl.Run) runLists {
	plain := runLists{config: twoLists(r.Config)}
	for _, a := range r.Acceptors {
		plain.acceptors = append(plain.acceptors, state(a))
	}
	for _, p := range r.Proposals {
		plain.proposals = append(plain.proposals, ballotVotes(p))
	}
	return plain
}

func implSteps(script []move) []impl.Step {
	var steps []impl.Step
	for _, s := range script {
		steps = append(steps, impl.Step(s))
	}
	return steps
}

func prepareStep(ballot int, value int, members ...int) move {
	return move{impl.StepPrepare, ballot, value, members}
}

func acceptStep(ballot int, members ...int) move {
	return move{Kind: impl.StepAccept, Ballot: ballot, Members: members}
}

// scriptOrFail returns what takes the results of RunScript and fails the test unless they are a consistent run and true.
func scriptOrFail(t *testing.T) func(r impl.Run, ok bool) impl.Run {
	return func(r impl.Run, ok bool) impl.Run {
		t.Helper()
		if !ok || !plainRun(r).consistent() {
			t.Fatalf("the result is %v, %v", r, ok)
		}
		return r
	}
}

// checkRun returns what fails the test unless the results of a call are the wanted ones.
func checkRun(t *testing.T, want runLists, wantOk bool) func(r impl.Run, ok bool) {
	return func(r impl.Run, ok bool) {
		t.Helper()
		if ok != wantOk || !sameRun(plainRun(r), want) {
			t.Fatalf("the result is %v, %v, not %v, %v", r, ok, want, wantOk)
		}
	}
}

// forEachScript calls check with configurations and the runs of all scripts.
func forEachScript(t *testing.T, configs []twoLists, check func(c twoLists, script []move, r impl.Run)) {
	t.Helper()
	must := scriptOrFail(t)
	scripts := scriptsForRuns()
	for _, c := range configs {
		for _, script := range scripts {
			check(c, script, must(impl.RunScript(impl.Config(c), implSteps(script))))
		}
	}
}

// forEachMessage calls check with consistent runs, and with ballots and sets of members, so that all of them occur.
func forEachMessage(check func(c twoLists, h history, ballot int, members []int)) {
	sets := validSets()
	at := 0
	for _, c := range configsForRuns() {
		for _, h := range historiesOf(c) {
			for range 16 {
				// 20*64 steps of 37 visit all pairs of a ballot and a set.
				at += 37
				check(c, h, at/64%20+1, sets[at%64])
			}
		}
	}
}

func TestConstantsOfScripts(t *testing.T) {
	if impl.MaxSteps != 30 || impl.StepPrepare != 1 || impl.StepAccept != 2 {
		t.Errorf("MaxSteps is %d, StepPrepare is %d and StepAccept is %d", impl.MaxSteps, impl.StepPrepare, impl.StepAccept)
	}
}

// The other tests rely on the scripts being varied.
func TestScriptsCoverTheEdges(t *testing.T) {
	var seen [16]int
	count := func(index int, is bool) {
		if is {
			seen[index]++
		}
	}
	for _, c := range configsForRuns() {
		for _, script := range scriptsForRuns() {
			var h history
			for _, s := range script {
				next := h.step(c, s)
				promisers := h.promisers(s.Ballot, s.Members)
				if !s.valid() {
					t.Fatalf("the step %v is not valid", s)
				}
				if prepares, old := s.Kind == 1, h.values[s.Ballot]; prepares {
					count(0, len(promisers) == 0 && len(s.Members) > 0)
					count(1, len(promisers) > 0 && old == 0 && next.values[s.Ballot] == 0)
					count(2, len(promisers) > 0 && len(promisers) < len(s.Members) && next.values[s.Ballot] != old)
					count(3, len(promisers) > 0 && old != 0 && old != s.Value)
					count(4, old == 0 && next.values[s.Ballot] != 0 && next.values[s.Ballot] != s.Value)
					count(5, old == 0 && next.values[s.Ballot] != 0 && slices.Max(h.values[s.Ballot:]) > 0)
					count(6, old == 0 && hasQuorum(c.Prepare, s.Members) && !hasQuorum(c.Prepare, promisers) && len(promisers) > 0)
				} else {
					count(7, old == 0 && len(s.Members) > 0)
					count(8, old != 0 && next == h && len(s.Members) > 0 && len(h.votes(s.Ballot)) == 0)
					count(9, old != 0 && next == h && len(h.votes(s.Ballot)) > 0)
					count(10, next != h && len(next.votes(s.Ballot)) < len(s.Members))
				}
				h = next
			}
			count(11, len(h.chosen(c)) == 0)
			count(12, len(h.chosen(c)) == 1 && len(h.chosenBallots(c)) > 2)
			count(13, len(h.chosen(c)) > 1)
			count(14, h.highestPromised() == 20)
			count(15, len(script) == 30 && h.highestPromised() < 20)
		}
	}
	if slices.Min(seen[:]) < 10 {
		t.Errorf("numbers of steps and scripts: %v", seen)
	}
}

func TestDocumentExampleOfConsensus(t *testing.T) {
	c := majorityOfThree()
	script := []move{prepareStep(1, 7, 1, 2), acceptStep(1, 2), prepareStep(2, 8, 2, 3), acceptStep(2, 2, 3)}
	wants := []runLists{
		{c, make([]state, 6), nil},
		{c, []state{{1, 0, 0}, {1, 0, 0}, {}, {}, {}, {}}, []ballotVotes{{1, 7, nil}}},
		{c, []state{{1, 0, 0}, {1, 1, 7}, {}, {}, {}, {}}, []ballotVotes{{1, 7, []int{2}}}},
		{c, []state{{1, 0, 0}, {2, 1, 7}, {2, 0, 0}, {}, {}, {}}, []ballotVotes{{1, 7, []int{2}}, {2, 7, nil}}},
		{c, []state{{1, 0, 0}, {2, 2, 7}, {2, 2, 7}, {}, {}, {}}, []ballotVotes{{1, 7, []int{2}}, {2, 7, []int{2, 3}}}},
	}
	for length, want := range wants {
		checkRun(t, want, true)(impl.RunScript(impl.Config(c), implSteps(script[:length])))
		wantChosen := []int{7}
		if length < len(script) {
			wantChosen = nil
		}
		if got := impl.RunChosen(implRun(want)); !slices.Equal(got, wantChosen) {
			t.Errorf("RunChosen after %d steps is %v", length, got)
		}
	}
	checkRun(t, wants[1], true)(impl.RunPrepare(implRun(wants[0]), 1, 7, []int{1, 2}))
	checkRun(t, wants[2], true)(impl.RunAccept(implRun(wants[1]), 1, []int{2}))
	checkRun(t, wants[3], true)(impl.RunPrepare(implRun(wants[2]), 2, 8, []int{2, 3}))
	checkRun(t, wants[4], true)(impl.RunAccept(implRun(wants[3]), 2, []int{2, 3}))
}

// The promises of a prepare phase that fails are kept.
func TestPreparePhasesThatFail(t *testing.T) {
	c := majorityOfThree()
	before := runLists{c, []state{{3, 0, 0}, {3, 3, 7}, {}, {}, {5, 0, 0}, {20, 0, 0}}, []ballotVotes{{3, 7, []int{2}}}}
	tests := []struct {
		ballot  int
		members []int
		want    []state
	}{
		// The members that promise have no prepare quorum.
		{4, []int{1}, []state{{4, 0, 0}, {3, 3, 7}, {}, {}, {5, 0, 0}, {20, 0, 0}}},
		{4, []int{2}, []state{{3, 0, 0}, {4, 3, 7}, {}, {}, {5, 0, 0}, {20, 0, 0}}},
		{4, []int{3, 4, 5, 6}, []state{{3, 0, 0}, {3, 3, 7}, {4, 0, 0}, {4, 0, 0}, {5, 0, 0}, {20, 0, 0}}},
		{20, []int{4, 5}, []state{{3, 0, 0}, {3, 3, 7}, {}, {20, 0, 0}, {20, 0, 0}, {20, 0, 0}}},
		// The members that receive the message have one, but not those that promise.
		{1, []int{1, 2, 3}, []state{{3, 0, 0}, {3, 3, 7}, {1, 0, 0}, {}, {5, 0, 0}, {20, 0, 0}}},
		{2, []int{1, 2, 3, 4, 5, 6}, []state{{3, 0, 0}, {3, 3, 7}, {2, 0, 0}, {2, 0, 0}, {5, 0, 0}, {20, 0, 0}}},
		// The ballot has a proposal already.
		{3, []int{3}, []state{{3, 0, 0}, {3, 3, 7}, {3, 0, 0}, {}, {5, 0, 0}, {20, 0, 0}}},
		{3, []int{1, 2, 3, 4, 5, 6}, []state{{3, 0, 0}, {3, 3, 7}, {3, 0, 0}, {3, 0, 0}, {5, 0, 0}, {20, 0, 0}}},
		// No member promises.
		{3, []int{1, 2}, before.acceptors},
		{2, []int{1, 2}, before.acceptors},
		{1, []int{1, 2, 5, 6}, before.acceptors},
		{20, []int{6}, before.acceptors},
		{20, nil, before.acceptors},
	}
	for _, test := range tests {
		want := runLists{c, test.want, before.proposals}
		checkRun(t, want, false)(impl.RunPrepare(implRun(before), test.ballot, 8, test.members))
		// What was promised is promised now: the same message again changes nothing.
		checkRun(t, want, false)(impl.RunPrepare(implRun(want), test.ballot, 8, test.members))
	}
}

// A prepare quorum must promise at once, and be one of prepare quorums, not of accept quorums.
func TestPromisesThatDoNotCount(t *testing.T) {
	c := majorityOfThree()
	half := runLists{c, []state{{4, 0, 0}, {}, {}, {}, {}, {}}, nil}
	checkRun(t, half, false)(impl.RunPrepare(implRun(runLists{c, make([]state, 6), nil}), 4, 8, []int{1}))
	all := runLists{c, []state{{4, 0, 0}, {4, 0, 0}, {}, {}, {}, {}}, nil}
	checkRun(t, all, false)(impl.RunPrepare(implRun(half), 4, 8, []int{2}))
	checkRun(t, all, false)(impl.RunPrepare(implRun(half), 4, 8, []int{1, 2}))

	sides := twoLists{[][]int{{1, 2}}, [][]int{{2, 3}}}
	want := runLists{sides, []state{{}, {1, 0, 0}, {1, 0, 0}, {}, {}, {}}, nil}
	checkRun(t, want, false)(impl.RunPrepare(implRun(runLists{sides, make([]state, 6), nil}), 1, 8, []int{2, 3}))
}

// The prepare quorums are disjoint here, so a lower ballot is prepared after a higher one.
func TestProposalsAreAddedAtTheirPlaces(t *testing.T) {
	c := twoLists{exactly(1, 6), exactly(6, 6)}
	for _, order := range [][]int{{1, 2, 3}, {1, 3, 2}, {2, 1, 3}, {2, 3, 1}, {3, 1, 2}, {3, 2, 1}} {
		var script []move
		for member, ballot := range order {
			script = append(script, prepareStep(ballot*5, 10+ballot, member+1))
		}
		r, ok := impl.RunScript(impl.Config(c), implSteps(script))
		if want := []ballotVotes{{5, 11, nil}, {10, 12, nil}, {15, 13, nil}}; !ok || !sameProposals(plainRun(r).proposals, want) {
			t.Errorf("the proposals after %v are %v", script, r.Proposals)
		}
	}
}

// The value that was accepted in the highest ballot of those that promise is taken over.
func TestPreparePhasesThatTakeAValueOver(t *testing.T) {
	c := twoLists{exactly(2, 6), exactly(5, 6)}
	before := runLists{c, []state{{}, {1, 1, 99}, {4, 4, 5}, {6, 6, 50}, {9, 4, 5}, {9, 0, 0}}, []ballotVotes{{1, 99, []int{2}}, {4, 5, []int{3, 5}}, {6, 50, []int{4}}, {9, 42, nil}}}
	tests := []struct {
		ballot  int
		members []int
		want    int
	}{
		{10, []int{1, 6}, 8},
		{10, []int{1, 2}, 99},
		{10, []int{2, 3}, 5},
		{10, []int{3, 4}, 50},
		{10, []int{2, 5}, 5},
		{10, []int{4, 5, 6}, 50},
		{10, []int{1, 2, 3, 4, 5, 6}, 50},
		// What the others accepted does not count, though they receive the message.
		{5, []int{1, 2, 4, 5, 6}, 99},
		{5, []int{1, 2, 3, 4}, 5},
		{8, []int{1, 3, 5, 6}, 5},
	}
	for _, test := range tests {
		r, ok := impl.RunPrepare(implRun(before), test.ballot, 8, test.members)
		added := ballotVotes{test.ballot, test.want, nil}
		at := slices.IndexFunc(before.proposals, func(p ballotVotes) bool { return p.Ballot > test.ballot })
		if at < 0 {
			at = len(before.proposals)
		}
		if want := slices.Insert(slices.Clone(before.proposals), at, added); !ok || !sameProposals(plainRun(r).proposals, want) {
			t.Errorf("the proposals after ballot %d at %v are %v, not %v", test.ballot, test.members, r.Proposals, want)
		}
	}
}

func TestAcceptPhases(t *testing.T) {
	c := majorityOfThree()
	before := runLists{c, []state{{3, 0, 0}, {3, 3, 7}, {}, {}, {5, 0, 0}, {20, 0, 0}}, []ballotVotes{{3, 7, []int{2}}, {5, 8, nil}}}
	unchanged := func(ballot int, members ...int) {
		t.Helper()
		checkRun(t, before, false)(impl.RunAccept(implRun(before), ballot, members))
	}
	// There is no proposal.
	unchanged(1, 1, 2, 3, 4, 5, 6)
	unchanged(4, 1, 2, 3, 4, 5, 6)
	unchanged(20, 1, 2, 3, 4, 5, 6)
	// No member accepts.
	unchanged(3, 5)
	unchanged(3, 5, 6)
	unchanged(5, 6)
	unchanged(3)
	unchanged(5)

	one := runLists{c, []state{{3, 3, 7}, {3, 3, 7}, {}, {}, {5, 0, 0}, {20, 0, 0}}, []ballotVotes{{3, 7, []int{1, 2}}, {5, 8, nil}}}
	checkRun(t, one, true)(impl.RunAccept(implRun(before), 3, []int{1}))
	// The members that have promised nothing accept too.
	four := runLists{c, []state{{3, 3, 7}, {3, 3, 7}, {3, 3, 7}, {3, 3, 7}, {5, 0, 0}, {20, 0, 0}}, []ballotVotes{{3, 7, []int{1, 2, 3, 4}}, {5, 8, nil}}}
	checkRun(t, four, true)(impl.RunAccept(implRun(before), 3, []int{1, 2, 3, 4, 5, 6}))
	// A vote for a lower ballot stays.
	five := runLists{c, []state{{5, 5, 8}, {5, 5, 8}, {}, {}, {5, 5, 8}, {20, 0, 0}}, []ballotVotes{{3, 7, []int{2}}, {5, 8, []int{1, 2, 5}}}}
	checkRun(t, five, true)(impl.RunAccept(implRun(before), 5, []int{1, 2, 5, 6}))
	checkRun(t, five, false)(impl.RunAccept(implRun(five), 3, []int{1, 2, 5}))
}

// A message that comes again after its effect changes nothing; an accept message succeeds again, a prepare message fails.
func TestRepeatedMessages(t *testing.T) {
	c := majorityOfThree()
	prepared := runLists{c, []state{{2, 0, 0}, {2, 0, 0}, {}, {}, {}, {}}, []ballotVotes{{2, 7, nil}}}
	checkRun(t, prepared, true)(impl.RunPrepare(implRun(runLists{c, make([]state, 6), nil}), 2, 7, []int{1, 2}))
	checkRun(t, prepared, false)(impl.RunPrepare(implRun(prepared), 2, 7, []int{1, 2}))
	checkRun(t, prepared, false)(impl.RunPrepare(implRun(prepared), 2, 99, []int{1}))
	accepted := runLists{c, []state{{2, 0, 0}, {2, 2, 7}, {}, {}, {}, {}}, []ballotVotes{{2, 7, []int{2}}}}
	checkRun(t, accepted, true)(impl.RunAccept(implRun(prepared), 2, []int{2}))
	checkRun(t, accepted, true)(impl.RunAccept(implRun(accepted), 2, []int{2}))
	checkRun(t, accepted, false)(impl.RunPrepare(implRun(accepted), 2, 7, []int{1, 2}))
	// A repeated accept message fails as soon as a higher ballot is promised.
	later := runLists{c, []state{{2, 0, 0}, {3, 2, 7}, {}, {}, {}, {}}, []ballotVotes{{2, 7, []int{2}}}}
	checkRun(t, later, false)(impl.RunPrepare(implRun(accepted), 3, 8, []int{2}))
	checkRun(t, later, false)(impl.RunAccept(implRun(later), 2, []int{2}))
}

// reached calls visit with every step of ballots 1 to last and members 1 to 3 from every run that such steps reach, and compares the results.
func reached(t *testing.T, c twoLists, last int, visit func(before history, after history)) {
	t.Helper()
	sets := validSets()[1:8]
	seen := map[history]bool{{}: true}
	for open := []history{{}}; len(open) > 0; open = open[1:] {
		h, r := open[0], implRun(open[0].run(c))
		check := func(got impl.Run, ok bool, want history, wantOk bool) {
			t.Helper()
			checkRun(t, want.run(c), wantOk)(got, ok)
			visit(h, want)
			if !seen[want] {
				seen[want] = true
				open = append(open, want)
			}
		}
		for ballot := 1; ballot <= last; ballot++ {
			for _, members := range sets {
				prepared, prepares := h.prepare(c, ballot, 50+ballot, members)
				got, ok := impl.RunPrepare(r, ballot, 50+ballot, members)
				check(got, ok, prepared, prepares)
				accepted, accepts := h.accept(ballot, members)
				got, ok = impl.RunAccept(r, ballot, members)
				check(got, ok, accepted, accepts)
			}
		}
	}
}

// All runs of two ballots and three members: at most one value is chosen and it stays, exactly if the configuration is safe.
func TestAllShortRuns(t *testing.T) {
	families := nonempty(familiesUpTo(3))
	for i, prepare := range families {
		for k, accept := range families {
			if (i+k)%5 != 0 {
				continue
			}
			c, two := twoLists{prepare, accept}, false
			reached(t, c, 2, func(before history, after history) {
				old, now := before.chosen(c), after.chosen(c)
				two = two || len(now) > 1
				if c.safe() && len(old) > 0 && !slices.Equal(old, now) {
					t.Fatalf("the values %v of %v became %v", old, before.run(c), now)
				}
			})
			if two == c.safe() {
				t.Fatalf("two values are chosen in %v: %v", c, two)
			}
		}
	}
}

func TestAllRunsOfThreeBallots(t *testing.T) {
	for _, c := range []twoLists{{[][]int{{1, 2}}, [][]int{{2, 3}}}, {[][]int{{1}, {2, 3}}, [][]int{{1, 2}, {1, 3}}}} {
		reached(t, c, 3, func(before history, after history) {
			if after.voted != before.voted && len(after.chosen(c)) > 1 {
				t.Fatalf("two values are chosen in %v", after.run(c))
			}
		})
	}
}

// checkAgreement runs all scripts and fails the test unless each chooses at most one value, the one that its votes bear out.
func checkAgreement(t *testing.T, configs []twoLists) {
	t.Helper()
	chosen := 0
	forEachScript(t, configs, func(c twoLists, script []move, r impl.Run) {
		values := impl.RunChosen(r)
		if len(values) > 1 || !slices.Equal(values, after(c, script).chosen(c)) {
			t.Fatalf("%v chooses %v in %v", script, values, c)
		}
		chosen += len(values)
	})
	if chosen < 1000 {
		t.Errorf("%d scripts choose a value", chosen)
	}
}

// Promise 95: at most one value is chosen if the configuration is safe, whatever happens to the messages.
func TestPromise95(t *testing.T) {
	checkAgreement(t, append(fewSafe(), safeForRuns()...))
}

// Promise 96: a value that is chosen stays chosen, and no other one is.
func TestPromise96(t *testing.T) {
	must := scriptOrFail(t)
	for _, c := range safeForRuns() {
		for _, script := range scriptsForRuns() {
			var before []int
			for length := range len(script) + 1 {
				now := impl.RunChosen(must(impl.RunScript(impl.Config(c), implSteps(script[:length]))))
				if len(before) > 0 && !slices.Equal(now, before) {
					t.Fatalf("%v chooses %v in %v, and then %v", script[:length], before, c, now)
				}
				before = now
			}
		}
	}
}

// Promise 97: no value comes from nowhere. It holds of proposals too, and of configurations that are not safe.
func TestPromise97(t *testing.T) {
	forEachScript(t, configsForRuns(), func(c twoLists, script []move, r impl.Run) {
		values := impl.RunChosen(r)
		for _, p := range r.Proposals {
			values = append(values, p.Value)
		}
		for _, value := range values {
			if !slices.ContainsFunc(script, func(s move) bool { return s.Kind == impl.StepPrepare && s.Value == value }) {
				t.Fatalf("no step of %v has the value %d, which is chosen or proposed in %v", script, value, r)
			}
		}
	})
}

// Promise 98: the proposals after a chosen one have its value.
func TestPromise98(t *testing.T) {
	later := 0
	forEachScript(t, safeForRuns(), func(c twoLists, script []move, r impl.Run) {
		for i, p := range r.Proposals {
			if !impl.FamilyHasQuorum(c.Accept, p.Votes) {
				continue
			}
			for _, other := range r.Proposals[i+1:] {
				later++
				if other.Value != p.Value {
					t.Fatalf("%v was chosen, but %v was proposed later in %v", p, other, r)
				}
			}
		}
	})
	if later < 1000 {
		t.Errorf("%d proposals are later than a chosen one", later)
	}
}

// Promise 99: with a prepare quorum that misses an accept quorum, a leader does not learn what was chosen.
func TestPromise99(t *testing.T) {
	must := scriptOrFail(t)
	for _, c := range append(unsafeLists(), unsafeForRuns()...) {
		prepare, accept, ok := newPair(c.Prepare, c.Accept).firstDisjoint()
		if !ok {
			t.Fatalf("the quorums of %v intersect", c)
		}
		script := []move{prepareStep(1, 8, prepare...), acceptStep(1, accept...), prepareStep(2, 7, prepare...), acceptStep(2, accept...)}
		r := must(impl.RunScript(impl.Config(c), implSteps(script)))
		if got := impl.RunChosen(r); !slices.Equal(got, []int{7, 8}) {
			t.Fatalf("%v chooses %v in %v", script, got, c)
		}
	}
}

// The values are in order and without repetition, whatever the order of their ballots.
func TestSeveralChosenValues(t *testing.T) {
	c := twoLists{[][]int{{1}}, [][]int{{2}, {3, 4}}}
	var script []move
	for ballot, value := range []int{50, 99, 1, 50, 20, 1} {
		script = append(script, prepareStep(ballot+1, value, 1), acceptStep(ballot+1, 2))
	}
	wants := [][]int{nil, {50}, {50, 99}, {1, 50, 99}, {1, 50, 99}, {1, 20, 50, 99}, {1, 20, 50, 99}}
	for count, want := range wants {
		r, ok := impl.RunScript(impl.Config(c), implSteps(script[:2*count]))
		if got := impl.RunChosen(r); !ok || !slices.Equal(got, want) {
			t.Errorf("%v chooses %v", script[:2*count], got)
		}
	}
	// The votes for one value in two ballots do not add up.
	apart := []move{prepareStep(1, 9, 1), acceptStep(1, 3), prepareStep(2, 9, 1), acceptStep(2, 4)}
	r, ok := impl.RunScript(impl.Config(c), implSteps(apart))
	if got := impl.RunChosen(r); !ok || len(got) != 0 {
		t.Errorf("%v chooses %v", apart, got)
	}
}

// Promise 100: nothing has happened in a new run, whether the configuration is safe or not.
func TestPromise100(t *testing.T) {
	for _, c := range completeLists() {
		r, ok := impl.RunNew(impl.Config(c))
		checkRun(t, runLists{c, make([]state, 6), nil}, true)(r, ok)
		if !impl.RunValid(r) || len(impl.RunChosen(r)) != 0 {
			t.Fatalf("RunNew(%v) is consistent: %v, and chooses %v", c, impl.RunValid(r), impl.RunChosen(r))
		}
	}
}

// Promise 101: exactly the members that can promise do, and a proposal is added if they contain a prepare quorum and the ballot has none.
func TestPromise101(t *testing.T) {
	var added, kept int
	forEachMessage(func(c twoLists, h history, ballot int, members []int) {
		before := h.run(c)
		got, ok := impl.RunPrepare(implRun(before), ballot, 42, members)
		plain := plainRun(got)
		var promised []int
		for i, a := range before.acceptors {
			if !slices.Contains(members, i+1) {
				continue
			}
			next, promises := impl.AcceptorPrepare(impl.Acceptor(a), ballot)
			if promises {
				promised = append(promised, i+1)
			}
			before.acceptors[i] = state(next)
		}
		if !sameLists(plain.config, c) || !slices.Equal(plain.acceptors, before.acceptors) {
			t.Fatalf("preparing ballot %d at %v changes %v to %v", ballot, members, h.run(c), plain)
		}
		isOfBallot := func(p ballotVotes) bool { return p.Ballot == ballot }
		wantOk := impl.FamilyHasQuorum(c.Prepare, promised) && !slices.ContainsFunc(before.proposals, isOfBallot)
		others := plain.proposals
		if wantOk {
			added++
			others = slices.DeleteFunc(slices.Clone(plain.proposals), isOfBallot)
		} else if len(promised) > 0 {
			kept++
		}
		if ok != wantOk || wantOk != (len(others) < len(plain.proposals)) || !sameProposals(others, before.proposals) {
			t.Fatalf("preparing ballot %d at %v changes %v to %v, %v", ballot, members, h.run(c), plain, ok)
		}
	})
	if added < 1000 || kept < 1000 {
		t.Errorf("%d proposals were added, and %d times only promises were kept", added, kept)
	}
}

// Promise 102: the new proposal has the value that those who promised require, and no votes.
func TestPromise102(t *testing.T) {
	var own, others int
	forEachMessage(func(c twoLists, h history, ballot int, members []int) {
		value := ballot*4 + len(members)
		got, ok := impl.RunPrepare(implRun(h.run(c)), ballot, value, members)
		if !ok {
			return
		}
		var replies []impl.Acceptor
		for _, m := range h.promisers(ballot, members) {
			replies = append(replies, got.Acceptors[m-1])
		}
		want, _ := impl.ChooseValue(replies, value)
		if want == value {
			own++
		} else {
			others++
		}
		at := slices.IndexFunc(got.Proposals, func(p impl.Proposal) bool { return p.Ballot == ballot })
		if at < 0 || got.Proposals[at].Value != want || len(got.Proposals[at].Votes) != 0 {
			t.Fatalf("preparing ballot %d with value %d at %v changes %v to %v", ballot, value, members, h.run(c), got)
		}
	})
	if own < 1000 || others < 1000 {
		t.Errorf("%d own values and %d others", own, others)
	}
}

// Every value can be the own one of a proposal, and every one can be taken over.
func TestEveryValueCanBeProposed(t *testing.T) {
	for own := 1; own <= 99; own++ {
		for v := 1; v <= 99; v += 7 {
			script := []move{prepareStep(1, v, 1, 2), acceptStep(1, 2), prepareStep(19, own, 1, 3), prepareStep(20, own, 2, 3)}
			r, ok := impl.RunScript(impl.Config(majorityOfThree()), implSteps(script))
			want := []ballotVotes{{1, v, []int{2}}, {19, own, nil}, {20, v, nil}}
			if !ok || !sameProposals(plainRun(r).proposals, want) {
				t.Fatalf("the proposals after %v are %v", script, r.Proposals)
			}
		}
	}
}

// Promise 103: exactly the members whose promise allows it vote for the proposal, and nothing else changes.
func TestPromise103(t *testing.T) {
	var some, none int
	forEachMessage(func(c twoLists, h history, ballot int, members []int) {
		want := h.run(c)
		for i, p := range want.proposals {
			if p.Ballot != ballot {
				continue
			}
			for _, m := range members {
				if want.acceptors[m-1].Promised <= ballot {
					want.proposals[i].Votes = impl.SetUnion(want.proposals[i].Votes, []int{m})
					a, _ := impl.AcceptorAccept(impl.Acceptor(want.acceptors[m-1]), ballot, p.Value)
					want.acceptors[m-1] = state(a)
				}
			}
		}
		accepts := h.values[ballot] != 0 && slices.ContainsFunc(members, func(m int) bool { return h.promised[m] <= ballot })
		if accepts {
			some++
		} else {
			none++
		}
		checkRun(t, want, accepts)(impl.RunAccept(implRun(h.run(c)), ballot, members))
	})
	if some < 1000 || none < 1000 {
		t.Errorf("some members accept %d times, and none %d times", some, none)
	}
}

// Promise 104: a second delivery succeeds as the first one does, and has no effect.
func TestPromise104(t *testing.T) {
	forEachMessage(func(c twoLists, h history, ballot int, members []int) {
		first, ok := impl.RunAccept(implRun(h.run(c)), ballot, members)
		checkRun(t, plainRun(first), ok)(impl.RunAccept(first, ballot, members))
	})
}

// Promise 105: it does not matter in which order and in how many parts a proposal is delivered.
func TestPromise105(t *testing.T) {
	sets, at := validSets(), 0
	forEachMessage(func(c twoLists, h history, ballot int, members []int) {
		at += 29
		others, r := sets[at%64], implRun(h.run(c))
		union, ok := impl.RunAccept(r, ballot, impl.SetUnion(members, others))
		for _, order := range [][][]int{{members, others}, {others, members}} {
			first, firstOk := impl.RunAccept(r, ballot, order[0])
			second, secondOk := impl.RunAccept(first, ballot, order[1])
			checkRun(t, plainRun(union), ok)(second, firstOk || secondOk)
		}
	})
}

// Promise 106: the chosen values are those of the proposals whose votes have an accept quorum.
func TestPromise106(t *testing.T) {
	var several int
	for _, c := range configsForRuns() {
		for _, h := range historiesOf(c) {
			r := h.run(c)
			got := impl.RunChosen(implRun(r))
			for v := -1; v <= 101; v++ {
				has := slices.ContainsFunc(r.proposals, func(p ballotVotes) bool { return p.Value == v && impl.FamilyHasQuorum(c.Accept, p.Votes) })
				if has != slices.Contains(got, v) {
					t.Fatalf("RunChosen(%v) is %v", r, got)
				}
			}
			if !slices.Equal(got, h.chosen(c)) {
				t.Fatalf("RunChosen(%v) is %v, not %v", r, got, h.chosen(c))
			}
			if len(got) > 2 {
				several++
			}
		}
	}
	if several < 100 {
		t.Errorf("%d runs choose several values", several)
	}
}

// Promise 107: a leader that reaches all members gets its proposal chosen.
func TestPromise107(t *testing.T) {
	everyone, ends := []int{1, 2, 3, 4, 5, 6}, 0
	forEachScript(t, configsForRuns(), func(c twoLists, script []move, r impl.Run) {
		ballot := after(c, script).highestPromised() + 1
		if ballot > impl.MaxBallot {
			return
		}
		ends++
		prepared, prepares := impl.RunPrepare(r, ballot, 42, everyone)
		accepted, accepts := impl.RunAccept(prepared, ballot, everyone)
		if !prepares || !accepts || len(prepared.Proposals) != len(r.Proposals)+1 {
			t.Fatalf("ballot %d after %v changes %v to %v", ballot, script, r, accepted)
		}
		last := accepted.Proposals[len(accepted.Proposals)-1]
		if last.Ballot != ballot || !slices.Equal(last.Votes, everyone) || !slices.Contains(impl.RunChosen(accepted), last.Value) {
			t.Fatalf("ballot %d after %v chooses %v in %v", ballot, script, impl.RunChosen(accepted), accepted)
		}
	})
	if ends < 1000 {
		t.Errorf("%d scripts leave a ballot", ends)
	}
}

// withInvalid returns the script with invalid steps between its own, as far as there is room.
func withInvalid(script []move, from int) []move {
	mixed, bad := slices.Clone(script), invalidMoves()
	for i := 0; len(mixed) < 30; i++ {
		mixed = slices.Insert(mixed, (i*7+from)%(len(mixed)+1), bad[(i+from)%len(bad)])
	}
	return mixed
}

// Promise 108: a script does what its steps do one by one, and the invalid ones do nothing.
func TestPromise108(t *testing.T) {
	at := 0
	forEachScript(t, configsForRuns(), func(c twoLists, script []move, r impl.Run) {
		want, _ := impl.RunNew(impl.Config(c))
		for _, s := range script {
			if s.Kind == impl.StepPrepare {
				want, _ = impl.RunPrepare(want, s.Ballot, s.Value, s.Members)
			} else {
				want, _ = impl.RunAccept(want, s.Ballot, s.Members)
			}
		}
		checkRun(t, plainRun(want), true)(r, true)
		checkRun(t, after(c, script).run(c), true)(r, true)
		at += 30
		checkRun(t, plainRun(want), true)(impl.RunScript(impl.Config(c), implSteps(withInvalid(script, at))))
	})
}

// Each of these would have an effect if it were not for its fault.
func TestInvalidStepsHaveNoEffect(t *testing.T) {
	for _, c := range []twoLists{majorityOfThree(), {exactly(1, 6), exactly(1, 6)}} {
		start := []move{prepareStep(3, 7, 1, 2), acceptStep(3, 2)}
		end := []move{prepareStep(4, 8, 2, 3), acceptStep(4, 3, 4)}
		wantStart, want := after(c, start).run(c), after(c, slices.Concat(start, end)).run(c)
		for _, bad := range invalidMoves() {
			script := slices.Concat([]move{bad}, start, []move{bad, bad})
			checkRun(t, wantStart, true)(impl.RunScript(impl.Config(c), implSteps(script)))
			checkRun(t, want, true)(impl.RunScript(impl.Config(c), implSteps(append(script, end...))))
		}
	}
}

// An accept step has no value: whatever is in the field does not matter, and what comes before does.
func TestValuesOfAcceptSteps(t *testing.T) {
	c := majorityOfThree()
	want := runLists{c, []state{{3, 3, 7}, {3, 3, 7}, {}, {}, {}, {}}, []ballotVotes{{3, 7, []int{1, 2}}}}
	for _, value := range append(oddValues(), 1, 7, 8, 99) {
		script := []move{prepareStep(3, 7, 1, 2), {impl.StepAccept, 3, value, []int{1, 2}}}
		checkRun(t, want, true)(impl.RunScript(impl.Config(c), implSteps(script)))
	}
}

func TestLengthsOfScripts(t *testing.T) {
	c := majorityOfThree()
	empty := runLists{c, make([]state, 6), nil}
	checkRun(t, empty, true)(impl.RunScript(impl.Config(c), nil))
	checkRun(t, empty, true)(impl.RunScript(impl.Config(c), []impl.Step{}))
	// Both the first and the last of MaxSteps steps count.
	script := []move{prepareStep(1, 7, 1, 2)}
	for len(script) < impl.MaxSteps-1 {
		script = append(script, acceptStep(2, 1, 2))
	}
	script = append(script, acceptStep(1, 1, 2))
	want := runLists{c, []state{{1, 1, 7}, {1, 1, 7}, {}, {}, {}, {}}, []ballotVotes{{1, 7, []int{1, 2}}}}
	checkRun(t, want, true)(impl.RunScript(impl.Config(c), implSteps(script)))
	checkRun(t, empty, true)(impl.RunScript(impl.Config(c), make([]impl.Step, impl.MaxSteps)))
	// Steps without an effect count too.
	for _, s := range append(invalidMoves(), acceptStep(1, 3), prepareStep(20, 7)) {
		checkRun(t, runLists{}, false)(impl.RunScript(impl.Config(c), implSteps(append(slices.Clone(script), s))))
	}
	for _, length := range []int{31, 32, 60, 256, 257, 1000, 1 << 16, 1<<16 + 1} {
		checkRun(t, runLists{}, false)(impl.RunScript(impl.Config(c), make([]impl.Step, length)))
		checkRun(t, runLists{}, false)(impl.RunScript(impl.Config(c), implSteps(slices.Repeat(script[:1], length))))
	}
}

// Promise 109: scripts end in consistent runs, and what an acceptor has accepted must have been proposed.
func TestPromise109(t *testing.T) {
	var removed int
	forEachScript(t, configsForRuns(), func(c twoLists, script []move, r impl.Run) {
		if !impl.RunValid(r) {
			t.Fatalf("%v is not consistent after %v", r, script)
		}
		plain := plainRun(r)
		for i, p := range plain.proposals {
			rest := runLists{c, plain.acceptors, slices.Delete(slices.Clone(plain.proposals), i, i+1)}
			accepted := slices.ContainsFunc(plain.acceptors, func(a state) bool { return a.Accepted == p.Ballot })
			if accepted {
				removed++
			}
			if impl.RunValid(implRun(rest)) == accepted {
				t.Fatalf("RunValid(%v) is %v", rest, !accepted)
			}
		}
	})
	if removed < 1000 {
		t.Errorf("%d accepted proposals", removed)
	}
}

// Promise 110: a ballot has one proposal, and the ballots ascend.
func TestPromise110(t *testing.T) {
	var again int
	forEachScript(t, configsForRuns(), func(c twoLists, script []move, r impl.Run) {
		for i, p := range r.Proposals {
			if i > 0 && r.Proposals[i-1].Ballot >= p.Ballot {
				t.Fatalf("the proposals of %v do not ascend", r)
			}
			again++
			after, ok := impl.RunPrepare(r, p.Ballot, 42, []int{1, 2, 3, 4, 5, 6})
			if ok || !sameProposals(plainRun(after).proposals, plainRun(r).proposals) {
				t.Fatalf("preparing ballot %d again changes %v to %v, %v", p.Ballot, r, after, ok)
			}
		}
	})
	// A ballot can have a proposal though no member has promised it.
	c := majorityOfThree()
	idle := runLists{c, make([]state, 6), []ballotVotes{{4, 7, nil}}}
	want := runLists{c, []state{{4, 0, 0}, {4, 0, 0}, {4, 0, 0}, {}, {}, {}}, idle.proposals}
	checkRun(t, want, false)(impl.RunPrepare(implRun(idle), 4, 8, []int{1, 2, 3}))
	if again < 1000 {
		t.Errorf("%d proposals", again)
	}
}

// Promise 111: who voted for a proposal has promised and accepted its ballot or a higher one.
func TestPromise111(t *testing.T) {
	forEachScript(t, configsForRuns(), func(c twoLists, script []move, r impl.Run) {
		for _, p := range r.Proposals {
			for _, m := range p.Votes {
				if a := r.Acceptors[m-1]; a.Promised < p.Ballot || a.Accepted < p.Ballot {
					t.Fatalf("member %d voted for %v, but has %v", m, p, a)
				}
			}
		}
	})
}

// Promise 112: the joint configuration of safe ones chooses at most one value.
func TestPromise112(t *testing.T) {
	must := configOrFail(t)
	configs := safeForRuns()
	var joint []twoLists
	for i, a := range configs {
		for _, b := range configs[i:] {
			joint = append(joint, twoLists(must(impl.ConfigJoint(impl.Config(a), impl.Config(b)))))
		}
	}
	checkAgreement(t, joint)
}

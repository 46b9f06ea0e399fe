package tests

import (
	"slices"
	"sync"
	"testing"

	"loop.example/flexquorum/impl"
)

// acceptors returns the states as the replies of acceptors, in new memory.
func acceptors(states []state) []impl.Acceptor {
	list := make([]impl.Acceptor, len(states))
	for i, a := range states {
		list[i] = impl.Acceptor(a)
	}
	return list
}

func checkPrepare(t *testing.T, a state, b int, want state, wantOk bool) {
	t.Helper()
	if got, ok := impl.AcceptorPrepare(impl.Acceptor(a), b); state(got) != want || ok != wantOk {
		t.Fatalf("AcceptorPrepare(%v, %d) is %v, %v, not %v, %v", a, b, got, ok, want, wantOk)
	}
}

func checkAccept(t *testing.T, a state, b int, v int, want state, wantOk bool) {
	t.Helper()
	if got, ok := impl.AcceptorAccept(impl.Acceptor(a), b, v); state(got) != want || ok != wantOk {
		t.Fatalf("AcceptorAccept(%v, %d, %d) is %v, %v, not %v, %v", a, b, v, got, ok, want, wantOk)
	}
}

func checkChoose(t *testing.T, replies []state, own int, want int) {
	t.Helper()
	if got, ok := impl.ChooseValue(acceptors(replies), own); got != want || !ok {
		t.Fatalf("ChooseValue(%v, %d) is %d, %v, not %d", replies, own, got, ok, want)
	}
}

func checkNotChosen(t *testing.T, replies []state, own int) {
	t.Helper()
	if got, ok := impl.ChooseValue(acceptors(replies), own); got != 0 || ok {
		t.Fatalf("ChooseValue(%v, %d) is %d, %v", replies, own, got, ok)
	}
}

// forEachMove calls check with valid states and all ballots.
func forEachMove(states []state, check func(a state, b int)) {
	for _, a := range states {
		for b := 1; b <= 20; b++ {
			check(a, b)
		}
	}
}

func TestLimitsOfBallotsAndValues(t *testing.T) {
	if impl.MaxBallot != 20 || impl.MaxValue != 99 {
		t.Errorf("MaxBallot is %d and MaxValue is %d", impl.MaxBallot, impl.MaxValue)
	}
}

// The other tests rely on the lists of replies being varied.
func TestRepliesCoverTheEdges(t *testing.T) {
	var none, idle, leastFirst, largestFirst, middleFirst, atStart, atEnd, between, apart, long int
	count := func(counter *int, seen bool) {
		if seen {
			*counter++
		}
	}
	for _, replies := range replyLists() {
		highest := highestAccepted(replies)
		isHighest := func(a state) bool { return a.Accepted == highest }
		first := slices.IndexFunc(replies, isHighest)
		var values []int
		for _, reply := range replies {
			if isHighest(reply) {
				values = append(values, reply.Value)
			}
		}
		accepted := highest > 0
		count(&none, len(replies) == 0)
		count(&idle, len(replies) > 0 && !accepted)
		// Of equal ballots the first counts, whether its value is the least of all, the largest or another.
		if accepted && slices.Min(values) < slices.Max(values) {
			count(&leastFirst, values[0] == slices.Min(values))
			count(&largestFirst, values[0] == slices.Max(values))
			count(&middleFirst, values[0] != slices.Min(values) && values[0] != slices.Max(values))
		}
		count(&atStart, accepted && first == 0 && len(replies) > 2)
		count(&atEnd, accepted && first == len(replies)-1 && first > 1)
		count(&between, accepted && first > 0 && first < len(replies)-1)
		count(&apart, accepted && len(replies) > 10 && acceptedApart(replies))
		count(&long, len(replies) >= 1000)
	}
	if counts := []int{none, idle, leastFirst, largestFirst, middleFirst, atStart, atEnd, between, apart, long}; slices.Contains(counts, 0) {
		t.Errorf("numbers of lists: %v", counts)
	}
}

func TestTransitionsOfSomeStates(t *testing.T) {
	checkPrepare(t, state{}, 3, state{3, 0, 0}, true)
	checkPrepare(t, state{3, 0, 0}, 4, state{4, 0, 0}, true)
	checkPrepare(t, state{5, 2, 7}, 6, state{6, 2, 7}, true)
	checkPrepare(t, state{5, 2, 7}, 4, state{5, 2, 7}, false)
	// Above the accepted ballot is not enough.
	checkPrepare(t, state{5, 2, 7}, 3, state{5, 2, 7}, false)

	checkAccept(t, state{}, 3, 7, state{3, 3, 7}, true)
	checkAccept(t, state{5, 2, 7}, 6, 8, state{6, 6, 8}, true)
	checkAccept(t, state{5, 2, 7}, 4, 8, state{5, 2, 7}, false)
	checkAccept(t, state{5, 2, 7}, 2, 7, state{5, 2, 7}, false)
	checkAccept(t, state{5, 0, 0}, 4, 8, state{5, 0, 0}, false)
}

// A ballot can be promised once, but accepted as long as no higher one is promised.
func TestBallotsEqualToThePromisedOne(t *testing.T) {
	checkPrepare(t, state{5, 0, 0}, 5, state{5, 0, 0}, false)
	checkPrepare(t, state{5, 2, 7}, 5, state{5, 2, 7}, false)
	checkPrepare(t, state{5, 5, 7}, 5, state{5, 5, 7}, false)
	checkAccept(t, state{5, 0, 0}, 5, 8, state{5, 5, 8}, true)
	checkAccept(t, state{5, 2, 7}, 5, 8, state{5, 5, 8}, true)
	checkAccept(t, state{5, 5, 7}, 5, 7, state{5, 5, 7}, true)
	// The document does not ask whether another value was accepted in the ballot.
	checkAccept(t, state{5, 5, 7}, 5, 8, state{5, 5, 8}, true)
	for _, a := range allStates() {
		if a.Promised > 0 {
			checkPrepare(t, a, a.Promised, a, false)
			checkAccept(t, a, a.Promised, 33, state{a.Promised, a.Promised, 33}, true)
		}
	}
}

func TestLeastAndLargestBallotsAndValues(t *testing.T) {
	checkPrepare(t, state{}, 1, state{1, 0, 0}, true)
	checkPrepare(t, state{}, 20, state{20, 0, 0}, true)
	checkPrepare(t, state{1, 0, 0}, 1, state{1, 0, 0}, false)
	checkPrepare(t, state{19, 19, 99}, 20, state{20, 19, 99}, true)
	checkPrepare(t, state{20, 1, 1}, 20, state{20, 1, 1}, false)
	checkPrepare(t, state{20, 20, 99}, 1, state{20, 20, 99}, false)
	for _, v := range []int{1, 99} {
		checkAccept(t, state{}, 1, v, state{1, 1, v}, true)
		checkAccept(t, state{}, 20, v, state{20, 20, v}, true)
		checkAccept(t, state{1, 1, 100 - v}, 1, v, state{1, 1, v}, true)
		checkAccept(t, state{20, 0, 0}, 20, v, state{20, 20, v}, true)
		checkAccept(t, state{20, 0, 0}, 19, v, state{20, 0, 0}, false)
		checkAccept(t, state{2, 1, 100 - v}, 1, v, state{2, 1, 100 - v}, false)
		checkChoose(t, []state{{1, 1, v}}, 100-v, v)
		checkChoose(t, []state{{20, 20, v}}, 100-v, v)
		checkChoose(t, []state{{}}, v, v)
	}
}

// Promise 86: exactly the ballots above the promised one can be promised, and what was accepted stays.
func TestPromise86(t *testing.T) {
	forEachMove(allStates(), func(a state, b int) {
		if b > a.Promised {
			checkPrepare(t, a, b, state{b, a.Accepted, a.Value}, true)
		} else {
			checkPrepare(t, a, b, a, false)
		}
	})
}

// Promise 87: exactly the ballots from the promised one on can be accepted, and are then promised too.
func TestPromise87(t *testing.T) {
	check := func(a state, b int, v int) {
		if b >= a.Promised {
			checkAccept(t, a, b, v, state{b, b, v}, true)
		} else {
			checkAccept(t, a, b, v, a, false)
		}
	}
	forEachMove(allStates(), func(a state, b int) {
		check(a, b, 1)
		check(a, b, 99)
	})
	forEachMove(statesWithValues(1, 50), func(a state, b int) {
		for v := 1; v <= 99; v++ {
			check(a, b, v)
		}
	})
}

// Promise 88: no transition lowers a ballot.
func TestPromise88(t *testing.T) {
	forEachMove(allStates(), func(a state, b int) {
		prepared, _ := impl.AcceptorPrepare(impl.Acceptor(a), b)
		accepted, _ := impl.AcceptorAccept(impl.Acceptor(a), b, 42)
		for _, after := range []impl.Acceptor{prepared, accepted} {
			if after.Promised < a.Promised || after.Accepted < a.Accepted || !impl.AcceptorValid(after) {
				t.Fatalf("ballot %d changes %v to %v", b, a, after)
			}
		}
	})
}

// Promise 89: a promise keeps out the ballots below it, and no others.
func TestPromise89(t *testing.T) {
	forEachMove(someStates(), func(a state, b int) {
		prepared, ok := impl.AcceptorPrepare(impl.Acceptor(a), b)
		if !ok {
			return
		}
		for other := 1; other <= 20; other++ {
			if _, ok := impl.AcceptorAccept(prepared, other, 42); ok != (other >= b) {
				t.Fatalf("after ballot %d was promised from %v, accepting ballot %d is %v", b, a, other, ok)
			}
		}
	})
}

// Promise 90: the value of the first reply with the highest accepted ballot is chosen, or the own one.
func TestPromise90(t *testing.T) {
	for _, replies := range replyLists() {
		for _, own := range []int{1, 45, 46, 99} {
			checkChoose(t, replies, own, chosen(replies, own))
		}
	}
}

func TestChosenValuesOfSomeReplies(t *testing.T) {
	tests := []struct {
		replies []state
		want    int
	}{
		{nil, 50},
		{[]state{}, 50},
		{[]state{{}}, 50},
		{[]state{{20, 0, 0}, {3, 0, 0}, {}}, 50},
		{[]state{{3, 2, 7}}, 7},
		// The accepted ballot counts, not the promised one, and not the value.
		{[]state{{20, 2, 7}, {3, 3, 8}}, 8},
		{[]state{{3, 3, 7}, {20, 2, 8}}, 7},
		{[]state{{3, 2, 99}, {3, 3, 1}}, 1},
		{[]state{{3, 3, 1}, {3, 2, 99}}, 1},
		{[]state{{20, 0, 0}, {1, 1, 9}, {20, 0, 0}}, 9},
		{[]state{{5, 4, 6}, {5, 5, 7}, {5, 3, 8}}, 7},
		// The first of equal ballots counts.
		{[]state{{5, 5, 7}, {5, 5, 8}}, 7},
		{[]state{{5, 5, 8}, {5, 5, 7}}, 8},
		{[]state{{9, 5, 7}, {5, 5, 8}, {7, 5, 6}}, 7},
		{[]state{{5, 4, 1}, {5, 5, 2}, {5, 4, 3}, {5, 5, 4}, {9, 0, 0}}, 2},
		{[]state{{20, 20, 2}, {20, 20, 1}, {20, 20, 99}}, 2},
		{[]state{{1, 1, 2}, {1, 1, 1}, {1, 1, 99}}, 2},
	}
	for _, test := range tests {
		checkChoose(t, test.replies, 50, test.want)
	}
}

// Every value can be the own one, and every one can be that of a reply.
func TestEveryValueCanBeChosen(t *testing.T) {
	for own := 1; own <= 99; own++ {
		checkChoose(t, nil, own, own)
		checkChoose(t, []state{{}, {20, 0, 0}}, own, own)
		for v := 1; v <= 99; v++ {
			checkChoose(t, []state{{4, 0, 0}, {4, 3, v}}, own, v)
		}
	}
}

// Promise 91: a reply that has accepted nothing, or a lower ballot than another one, does not matter, wherever it is.
func TestPromise91(t *testing.T) {
	added := someStates()
	for i, replies := range replyLists() {
		if len(replies) > 21 {
			continue
		}
		want, _ := impl.ChooseValue(acceptors(replies), 50)
		highest := highestAccepted(replies)
		for k := i % 7; k < len(added); k += 7 {
			if added[k].Accepted > 0 && added[k].Accepted >= highest {
				continue
			}
			at := (i + k) % (len(replies) + 1)
			checkChoose(t, slices.Insert(slices.Clone(replies), at, added[k]), 50, want)
		}
	}
}

// Promise 92: the ballots of a valid state are in order, and it has a value if it has accepted a ballot.
func TestPromise92(t *testing.T) {
	valid := map[state]bool{}
	for _, a := range allStates() {
		valid[a] = true
	}
	for promised := -2; promised <= 22; promised++ {
		for accepted := -2; accepted <= 22; accepted++ {
			for value := -101; value <= 102; value++ {
				a := state{promised, accepted, value}
				got := impl.AcceptorValid(impl.Acceptor(a))
				if got && (accepted < 0 || accepted > promised || promised > impl.MaxBallot || (value != 0) != (accepted != 0)) {
					t.Fatalf("%v is valid", a)
				}
				if got != valid[a] {
					t.Fatalf("AcceptorValid(%v) is %v", a, got)
				}
			}
		}
	}
}

func TestInvalidStates(t *testing.T) {
	for _, a := range invalidStates() {
		if impl.AcceptorValid(impl.Acceptor(a)) {
			t.Fatalf("AcceptorValid(%v) is true", a)
		}
	}
}

// Promise 93: an accepted ballot can be accepted with its value again, but not be prepared.
func TestPromise93(t *testing.T) {
	forEachMove(someStates(), func(a state, b int) {
		for _, v := range []int{1, 2, 42, 99} {
			accepted, ok := impl.AcceptorAccept(impl.Acceptor(a), b, v)
			if ok {
				checkAccept(t, state(accepted), b, v, state(accepted), true)
				checkPrepare(t, state(accepted), b, state(accepted), false)
			}
		}
	})
}

// Promise 94: the order of replies that accepted different ballots does not matter.
func TestPromise94(t *testing.T) {
	for _, replies := range replyLists() {
		if !acceptedApart(replies) {
			continue
		}
		want, _ := impl.ChooseValue(acceptors(replies), 50)
		reversed := slices.Clone(replies)
		slices.Reverse(reversed)
		checkChoose(t, reversed, 50, want)
	}
}

// The example of chapter 22, with the acceptors alone.
func TestLeaderLearnsTheAcceptedValue(t *testing.T) {
	first, _ := impl.AcceptorPrepare(impl.Acceptor{}, 1)
	second, _ := impl.AcceptorAccept(first, 1, 7)
	promise, ok := impl.AcceptorPrepare(second, 2)
	third, fine := impl.AcceptorPrepare(impl.Acceptor{}, 2)
	if !ok || !fine {
		t.Fatal("ballot 2 was not promised")
	}
	checkChoose(t, []state{state(promise), state(third)}, 8, 7)
	checkAccept(t, state(promise), 1, 7, state{2, 1, 7}, false)
	checkAccept(t, state(promise), 2, 7, state{2, 2, 7}, true)
}

// Invalid arguments give the zero value and not the state that was given.
func TestTransitionsOfInvalidStates(t *testing.T) {
	for _, a := range invalidStates() {
		for _, b := range append([]int{1, 2, 3, 19, 20}, oddBallots()...) {
			checkPrepare(t, a, b, state{}, false)
			for _, v := range []int{1, 99, 0, -1, 100} {
				checkAccept(t, a, b, v, state{}, false)
			}
		}
	}
}

func TestTransitionsWithInvalidBallots(t *testing.T) {
	for _, a := range someStates() {
		for _, b := range oddBallots() {
			checkPrepare(t, a, b, state{}, false)
			for _, v := range []int{1, 42, 99, 0, 100} {
				checkAccept(t, a, b, v, state{}, false)
			}
		}
	}
}

// Also where the ballot is below the promised one: invalid arguments come first.
func TestAcceptingInvalidValues(t *testing.T) {
	forEachMove(statesWithValues(1, 99), func(a state, b int) {
		for _, v := range oddValues() {
			checkAccept(t, a, b, v, state{}, false)
		}
	})
}

func TestInvalidReplies(t *testing.T) {
	valid := [][]state{nil, {{}}, {{20, 20, 7}}, {{5, 0, 0}, {3, 2, 7}}, {{3, 2, 7}, {20, 0, 0}, {20, 20, 8}, {4, 1, 9}}}
	for _, bad := range invalidStates() {
		for _, replies := range valid {
			for at := range len(replies) + 1 {
				checkNotChosen(t, slices.Insert(slices.Clone(replies), at, bad), 50)
			}
		}
		checkNotChosen(t, []state{bad, bad}, 50)
		checkNotChosen(t, []state{bad}, 0)
	}
	// One of many is enough.
	long := strided(allStates(), 977, 1000)
	for _, at := range []int{0, 1, 499, 998, 999} {
		replies := slices.Clone(long)
		replies[at] = state{2, 3, 5}
		checkNotChosen(t, replies, 50)
	}
}

// The own value is checked even if a reply has accepted another one.
func TestInvalidOwnValues(t *testing.T) {
	lists := [][]state{nil, {}, {{}}, {{20, 0, 0}, {}}, {{3, 3, 7}}, {{20, 20, 99}, {1, 1, 1}}, {{2, 3, 5}}, strided(allStates(), 977, 1000)}
	for _, own := range oddValues() {
		for _, replies := range lists {
			checkNotChosen(t, replies, own)
		}
	}
}

func TestAcceptorArgumentsAreNotModified(t *testing.T) {
	for _, replies := range append(replyLists(), invalidStates()) {
		long := append(acceptors(replies), acceptors(fewStates())...)
		want := slices.Clone(long)
		impl.ChooseValue(long[:len(replies)], 50)
		impl.ChooseValue(long[:len(replies)], 0)
		for _, a := range long[:min(len(replies), 30)] {
			impl.AcceptorValid(a)
			impl.AcceptorPrepare(a, 20)
			impl.AcceptorAccept(a, 20, 42)
		}
		if !slices.Equal(long, want) {
			t.Fatalf("the replies %v became %v", want, long)
		}
	}
}

// The conversions to state compile only as long as an acceptor is three numbers, which share no memory.
func TestAcceptorResultsShareNoMemory(t *testing.T) {
	forEachMove(someStates(), func(a state, b int) {
		given := impl.Acceptor(a)
		prepared, _ := impl.AcceptorPrepare(given, b)
		accepted, _ := impl.AcceptorAccept(given, b, 42)
		wantPrepared, wantAccepted := state(prepared), state(accepted)
		prepared.Promised, prepared.Accepted, prepared.Value = -77, -77, -77
		if state(given) != a || state(accepted) != wantAccepted {
			t.Fatalf("writing to a result changed %v to %v and %v to %v", a, given, wantAccepted, accepted)
		}
		if again, _ := impl.AcceptorPrepare(given, b); state(again) != wantPrepared {
			t.Fatalf("writing to a result changed %v to %v", wantPrepared, again)
		}
	})
}

// Calls at the same time, and calls that fail before, change nothing.
func TestAcceptorsKeepNoState(t *testing.T) {
	lists, states := replyLists(), someStates()
	var callers sync.WaitGroup
	for caller := range 4 {
		callers.Go(func() {
			for i, a := range states {
				b, v := (i+caller)%20+1, (i*7+caller)%99+1
				impl.AcceptorPrepare(impl.Acceptor{Promised: -1}, b)
				impl.AcceptorAccept(impl.Acceptor(a), b, 0)
				impl.ChooseValue([]impl.Acceptor{{Promised: 1, Accepted: 2, Value: v}}, v)
				prepared, ok := impl.AcceptorPrepare(impl.Acceptor(a), b)
				if wantOk := b > a.Promised; ok != wantOk || prepared.Promised != max(a.Promised, b) {
					t.Errorf("AcceptorPrepare(%v, %d) is %v, %v", a, b, prepared, ok)
				}
				accepted, ok := impl.AcceptorAccept(impl.Acceptor(a), b, v)
				if wantOk := b >= a.Promised; ok != wantOk || wantOk && state(accepted) != (state{b, b, v}) {
					t.Errorf("AcceptorAccept(%v, %d, %d) is %v, %v", a, b, v, accepted, ok)
				}
				replies := lists[i*3%len(lists)]
				if got, ok := impl.ChooseValue(acceptors(replies), v); !ok || got != chosen(replies, v) {
					t.Errorf("ChooseValue(%v, %d) is %d, %v", replies, v, got, ok)
				}
			}
		})
	}
	callers.Wait()
}

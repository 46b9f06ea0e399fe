package tests

import (
	"math"
	"math/rand/v2"
	"slices"
)

// ballotVotes has the fields of a proposal; it need not be valid.
type ballotVotes struct {
	Ballot int
	Value  int
	Votes  []int
}

// runLists has the parts of a run; it need not be consistent.
type runLists struct {
	config    twoLists
	acceptors []state
	proposals []ballotVotes
}

// move has the fields of a step; it need not be valid.
type move struct {
	Kind    int
	Ballot  int
	Value   int
	Members []int
}

// history tells a consistent run by what its members promised and voted for. Nothing in it depends on the order of events:
// what a member accepted last is what it voted for in its highest ballot.
type history struct {
	promised [7]int      // by member
	values   [21]int     // by ballot; 0 if it has no proposal
	voted    [21][7]bool // by ballot and member
}

// accepted returns the highest ballot that member m voted in, or 0.
func (h history) accepted(m int) int {
	ballot := 20
	for ballot > 0 && !h.voted[ballot][m] {
		ballot--
	}
	return ballot
}

func (h history) votes(ballot int) []int {
	var votes []int
	for m := 1; m <= 6; m++ {
		if h.voted[ballot][m] {
			votes = append(votes, m)
		}
	}
	return votes
}

// run tells the history with the parts of a run.
func (h history) run(c twoLists) runLists {
	r := runLists{config: c}
	for m := 1; m <= 6; m++ {
		accepted := h.accepted(m)
		r.acceptors = append(r.acceptors, state{h.promised[m], accepted, h.values[accepted]})
	}
	for ballot, value := range h.values {
		if value != 0 {
			r.proposals = append(r.proposals, ballotVotes{ballot, value, h.votes(ballot)})
		}
	}
	return r
}

// historyOf is the reverse of run.
func historyOf(r runLists) history {
	var h history
	for i, a := range r.acceptors {
		h.promised[i+1] = a.Promised
	}
	for _, p := range r.proposals {
		h.values[p.Ballot] = p.Value
		for _, m := range p.Votes {
			h.voted[p.Ballot][m] = true
		}
	}
	return h
}

// promisers returns which of the members can promise the ballot.
func (h history) promisers(ballot int, members []int) []int {
	var list []int
	for _, m := range members {
		if h.promised[m] < ballot {
			list = append(list, m)
		}
	}
	return list
}

// highestVote returns the value of the highest ballot that one of the members voted in, or own if there is none.
func (h history) highestVote(members []int, own int) int {
	for ballot := 20; ballot >= 1; ballot-- {
		for _, m := range members {
			if h.voted[ballot][m] {
				return h.values[ballot]
			}
		}
	}
	return own
}

func hasQuorum(f [][]int, s []int) bool {
	return slices.ContainsFunc(f, func(quorum []int) bool { return containsAll(s, quorum) })
}

// prepare is the definition of the prepare phase; the arguments are valid.
func (h history) prepare(c twoLists, ballot int, value int, members []int) (history, bool) {
	promisers := h.promisers(ballot, members)
	after := h
	for _, m := range promisers {
		after.promised[m] = ballot
	}
	if h.values[ballot] != 0 || !hasQuorum(c.Prepare, promisers) {
		return after, false
	}
	after.values[ballot] = h.highestVote(promisers, value)
	return after, true
}

// accept is the definition of the accept phase; the arguments are valid.
func (h history) accept(ballot int, members []int) (history, bool) {
	after, accepted := h, false
	for _, m := range members {
		if h.values[ballot] != 0 && h.promised[m] <= ballot {
			after.promised[m] = ballot
			after.voted[ballot][m] = true
			accepted = true
		}
	}
	return after, accepted
}

// step is the definition of a step; it need not be valid.
func (h history) step(c twoLists, s move) history {
	if !s.valid() {
		return h
	}
	if s.Kind == 1 {
		h, _ = h.prepare(c, s.Ballot, s.Value, s.Members)
	} else {
		h, _ = h.accept(s.Ballot, s.Members)
	}
	return h
}

func (s move) valid() bool {
	if s.Kind == 1 && (s.Value < 1 || s.Value > 99) {
		return false
	}
	return (s.Kind == 1 || s.Kind == 2) && s.Ballot >= 1 && s.Ballot <= 20 && isValidSet(s.Members)
}

// after returns the history of a script.
func after(c twoLists, script []move) history {
	var h history
	for _, s := range script {
		h = h.step(c, s)
	}
	return h
}

// chosenBallots returns the ballots whose votes have an accept quorum.
func (h history) chosenBallots(c twoLists) []int {
	var ballots []int
	for ballot := range h.values {
		if hasQuorum(c.Accept, h.votes(ballot)) {
			ballots = append(ballots, ballot)
		}
	}
	return ballots
}

// chosen returns the chosen values: it tries all values, the small ones first.
func (h history) chosen(c twoLists) []int {
	ballots := h.chosenBallots(c)
	var values []int
	for v := 1; v <= 99; v++ {
		if slices.ContainsFunc(ballots, func(ballot int) bool { return h.values[ballot] == v }) {
			values = append(values, v)
		}
	}
	return values
}

func (h history) highestPromised() int {
	return slices.Max(h.promised[:])
}

// sound reports whether the acceptor can be that of a member.
func (a state) sound() bool {
	if a.Accepted < 0 || a.Accepted > a.Promised || a.Promised > 20 {
		return false
	}
	return a.Accepted == 0 && a.Value == 0 || a.Accepted > 0 && a.Value >= 1 && a.Value <= 99
}

// consistent is the definition of a consistent run, sentence by sentence.
func (r runLists) consistent() bool {
	if !r.config.complete() || len(r.acceptors) != 6 || slices.ContainsFunc(r.acceptors, func(a state) bool { return !a.sound() }) {
		return false
	}
	for i, p := range r.proposals {
		if p.Ballot < 1 || p.Ballot > 20 || i > 0 && r.proposals[i-1].Ballot >= p.Ballot || p.Value < 1 || p.Value > 99 || !isValidSet(p.Votes) {
			return false
		}
		if slices.ContainsFunc(p.Votes, func(m int) bool { return r.acceptors[m-1].Accepted < p.Ballot }) {
			return false
		}
	}
	for i, a := range r.acceptors {
		votedFor := func(p ballotVotes) bool {
			return p.Ballot == a.Accepted && p.Value == a.Value && slices.Contains(p.Votes, i+1)
		}
		if a.Accepted > 0 && !slices.ContainsFunc(r.proposals, votedFor) {
			return false
		}
	}
	return true
}

func sameProposals(a []ballotVotes, b []ballotVotes) bool {
	return slices.EqualFunc(a, b, func(p ballotVotes, q ballotVotes) bool {
		return p.Ballot == q.Ballot && p.Value == q.Value && slices.Equal(p.Votes, q.Votes)
	})
}

func sameRun(a runLists, b runLists) bool {
	return sameLists(a.config, b.config) && slices.Equal(a.acceptors, b.acceptors) && sameProposals(a.proposals, b.proposals)
}

func cloneRun(r runLists) runLists {
	clone := runLists{config: twoLists{cloneFamily(r.config.Prepare), cloneFamily(r.config.Accept)}, acceptors: slices.Clone(r.acceptors)}
	for _, p := range r.proposals {
		clone.proposals = append(clone.proposals, ballotVotes{p.Ballot, p.Value, slices.Clone(p.Votes)})
	}
	return clone
}

func majorityOfThree() twoLists {
	return twoLists{exactly(2, 3), exactly(2, 3)}
}

// safeForRuns returns safe configurations of several kinds.
func safeForRuns() []twoLists {
	return []twoLists{
		majorityOfThree(),
		{exactly(3, 3), exactly(1, 3)}, {exactly(1, 3), exactly(3, 3)},
		{[][]int{{1}}, [][]int{{1}}}, {[][]int{{6}}, [][]int{{6}}}, {[][]int{{1, 2}}, [][]int{{2, 3}}},
		{[][]int{{1}, {2, 3}}, [][]int{{1, 2}, {1, 3}}}, {[][]int{{1, 2}, {1, 3}}, [][]int{{1}, {2, 3}}},
		{exactly(3, 5), exactly(3, 5)}, {exactly(2, 4), exactly(3, 4)}, {exactly(3, 4), exactly(2, 4)},
		{exactly(4, 6), largestFamily()}, {largestFamily(), exactly(4, 6)}, {exactly(5, 6), exactly(2, 6)},
		{[][]int{{1, 2}, {3, 4}, {5, 6}}, [][]int{{1, 3, 5}, {2, 4, 6}}}, {[][]int{{1, 3, 5}, {2, 4, 6}}, [][]int{{1, 2}, {3, 4}, {5, 6}}},
	}
}

// unsafeForRuns returns configurations that are complete, but not safe.
func unsafeForRuns() []twoLists {
	return []twoLists{
		{[][]int{{1}}, [][]int{{2}}}, {[][]int{{1, 2}}, [][]int{{3}}}, {[][]int{{1}, {2}}, [][]int{{1}, {2}}},
		{exactly(1, 3), exactly(1, 3)}, {exactly(2, 3), exactly(1, 3)}, {exactly(1, 3), exactly(2, 3)}, {exactly(2, 4), exactly(2, 4)},
		{exactly(2, 6), exactly(4, 6)}, {largestFamily(), largestFamily()}, {[][]int{{1, 2}, {3, 4}}, [][]int{{1, 3}, {2, 4}, {5, 6}}},
	}
}

func configsForRuns() []twoLists {
	return append(safeForRuns(), unsafeForRuns()...)
}

// someMembers returns a random set that has each member with the given probability.
func someMembers(random *rand.Rand, likely float64) []int {
	var s []int
	for m := 1; m <= 6; m++ {
		if random.Float64() < likely {
			s = append(s, m)
		}
	}
	return s
}

// randomScript returns valid steps: messages reach some members only, come again, and come later than those of higher ballots.
func randomScript(random *rand.Rand, length int) []move {
	likely := 0.3 + 0.6*random.Float64()
	ballots := 2 + random.IntN(19)
	var script []move
	for len(script) < length {
		// The ballots rise and fall back, so that some messages come too late.
		ballot := min(ballots, max(1, 1+len(script)*ballots/length+random.IntN(5)-2))
		members := someMembers(random, likely)
		switch random.IntN(8) {
		case 0, 1, 2:
			script = append(script, move{1, ballot, 1 + random.IntN(99), members})
		case 3:
			script = append(script, move{1, ballot, 1 + random.IntN(99), members}, move{Kind: 2, Ballot: ballot, Members: someMembers(random, likely)})
		case 4, 5, 6:
			script = append(script, move{Kind: 2, Ballot: ballot, Members: members})
		case 7:
			if len(script) > 0 {
				script = append(script, script[random.IntN(len(script))])
			}
		}
	}
	return script[:length]
}

// takeoverScript has many leaders, one after the other, whose proposals reach few members.
func takeoverScript(random *rand.Rand) []move {
	var script []move
	for ballot := 1; ballot <= 15; ballot++ {
		script = append(script, move{1, ballot, 99 - ballot, someMembers(random, 0.8)}, move{Kind: 2, Ballot: ballot, Members: someMembers(random, 0.35)})
	}
	return script
}

// scriptsForRuns returns valid scripts of up to MaxSteps steps.
func scriptsForRuns() [][]move {
	random := rand.New(rand.NewPCG(22, 95))
	scripts := [][]move{nil, {}}
	for length := 1; length <= 30; length++ {
		for range 3 {
			scripts = append(scripts, randomScript(random, length))
		}
	}
	for range 30 {
		scripts = append(scripts, randomScript(random, 30), takeoverScript(random))
	}
	return scripts
}

// invalidMoves returns steps that have no effect, with the faults that the document names first.
func invalidMoves() []move {
	all := []move{{}, {Kind: 0, Ballot: 3, Value: 7, Members: []int{1, 2, 3}}, {Kind: 3, Ballot: 3, Value: 7, Members: []int{1, 2, 3}}}
	for _, kind := range []int{-1, -2, 4, 255, 256, 257, 258, 1<<32 + 1, 1<<32 + 2, math.MinInt, math.MinInt + 1, math.MinInt + 2, math.MaxInt} {
		all = append(all, move{kind, 20, 7, []int{1, 2, 3, 4, 5, 6}})
	}
	for _, ballot := range oddBallots() {
		all = append(all, move{1, ballot, 7, []int{1, 2, 3, 4, 5, 6}}, move{2, ballot, 7, []int{1, 2, 3, 4, 5, 6}})
	}
	for _, value := range oddValues() {
		all = append(all, move{1, 20, value, []int{1, 2, 3, 4, 5, 6}})
	}
	for _, s := range fewInvalidSets() {
		all = append(all, move{1, 20, 7, s}, move{2, 3, 7, s})
	}
	return all
}

// fewInvalidSets returns one slice of every kind that is not a member set.
func fewInvalidSets() [][]int {
	return [][]int{{3, 1}, {1, 1}, {0}, {-1}, {7}, {1, 2, 3, 7}, {0, 1, 2, 3}, {1, 2, 3, 3}, {1, 2, 2, 3}, {6, 5, 4, 3, 2, 1}, {1, 257}, {1 << 32}, {math.MinInt, 1}, {1, math.MaxInt}, ascendingFrom(1, 7), ascendingFrom(1, 1000)}
}

// randomHistory returns a consistent run that need not come from a script: anyone may vote for any proposal up to the own promise.
func randomHistory(random *rand.Rand) history {
	var h history
	ballots, share := 1+random.IntN(20), 1+random.IntN(4)
	for ballot := 1; ballot <= ballots; ballot++ {
		if random.IntN(share) == 0 {
			h.values[ballot] = 1 + random.IntN(99)
		}
	}
	for m := 1; m <= 6; m++ {
		h.promised[m] = random.IntN(21)
		for ballot := 1; ballot <= h.promised[m]; ballot++ {
			h.voted[ballot][m] = h.values[ballot] != 0 && random.IntN(share+1) > 0
		}
	}
	return h
}

// historiesOf returns consistent runs: those of all beginnings of some scripts, and random ones.
func historiesOf(c twoLists) []history {
	all := []history{{}}
	for i, script := range scriptsForRuns() {
		if i%12 == 0 {
			for length := range script {
				all = append(all, after(c, script[:length+1]))
			}
		}
	}
	random := rand.New(rand.NewPCG(22, 96))
	for range 40 {
		all = append(all, randomHistory(random))
	}
	return all
}

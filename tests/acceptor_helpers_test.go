package tests

import (
	"math"
	"slices"
)

// state has the fields of an acceptor; it need not be valid.
type state struct {
	Promised int
	Accepted int
	Value    int
}

// statesWithValues returns the valid states whose values, if any, are among the given ones; those that have accepted nothing come first.
func statesWithValues(values ...int) []state {
	var all []state
	for promised := range 21 {
		all = append(all, state{Promised: promised})
	}
	for promised := 1; promised <= 20; promised++ {
		for accepted := 1; accepted <= promised; accepted++ {
			for _, value := range values {
				all = append(all, state{promised, accepted, value})
			}
		}
	}
	return all
}

func allStates() []state {
	return statesWithValues(ascendingFrom(1, 99)...)
}

// someStates returns the valid states with the least and largest values and some others.
func someStates() []state {
	return statesWithValues(1, 2, 50, 98, 99)
}

// fewStates returns valid states for the tests that combine several of them.
func fewStates() []state {
	return []state{
		{}, {1, 0, 0}, {20, 0, 0},
		{1, 1, 1}, {1, 1, 99}, {20, 1, 40},
		{7, 6, 41}, {7, 7, 42}, {8, 7, 43}, {20, 7, 99}, {20, 8, 1},
		{20, 19, 44}, {20, 20, 45}, {20, 20, 1}, {20, 20, 99},
	}
}

// invalidStates returns states that no acceptor can have, with those that the document names first.
func invalidStates() []state {
	all := []state{
		{-1, 0, 0}, {3, -1, 0}, {3, 2, -1}, {3, 0, -1}, {-1, -1, 0}, {-1, -1, 5}, {3, -1, 5}, {-1, -2, 5},
		{2, 3, 5}, {0, 1, 5}, {19, 20, 99}, {21, 0, 0}, {21, 20, 5}, {21, 21, 5},
		{3, 2, 0}, {3, 3, 0}, {20, 20, 0}, {3, 0, 5}, {0, 0, 5}, {20, 0, 99}, {0, 0, 1},
		{3, 2, 100}, {20, 20, 100}, {1, 1, 100}, {3, 0, 100},
	}
	valid := map[state]bool{}
	for _, a := range someStates() {
		valid[a] = true
	}
	for promised := -2; promised <= 22; promised++ {
		for accepted := -2; accepted <= 22; accepted++ {
			for _, value := range []int{-99, -2, -1, 0, 1, 2, 50, 98, 99, 100, 101} {
				if a := (state{promised, accepted, value}); !valid[a] {
					all = append(all, a)
				}
			}
		}
	}
	return append(all, statesWithOddFields()...)
}

// statesWithOddFields returns states of which one field or more is far out of range.
func statesWithOddFields() []state {
	var all []state
	for _, a := range fewStates() {
		for _, b := range oddBallots() {
			if b != 0 {
				all = append(all, state{b, a.Accepted, a.Value}, state{a.Promised, b, a.Value}, state{b, b, a.Value}, state{b, b, b})
			}
		}
		for _, v := range oddValues() {
			if v != 0 {
				all = append(all, state{a.Promised, a.Accepted, v})
			}
		}
	}
	return all
}

// oddBallots returns numbers that are not ballots, some of which look valid when only their low bits are kept.
func oddBallots() []int {
	return []int{0, -1, -2, -3, -20, -250, 21, 22, 63, 64, 127, 128, 255, 256, 257, 259, 276, 1<<16 + 3, 1 << 32, 1<<32 + 3, 1<<32 + 20, math.MinInt, math.MinInt + 1, math.MinInt + 3, math.MinInt + 20, math.MaxInt - 1, math.MaxInt}
}

// oddValues returns numbers that are not values, some of which look valid when only their low bits are kept.
func oddValues() []int {
	return []int{0, -1, -2, -7, -99, -249, 100, 101, 127, 128, 255, 256, 257, 263, 355, 1<<16 + 7, 1 << 32, 1<<32 + 7, 1<<32 + 99, math.MinInt, math.MinInt + 1, math.MinInt + 7, math.MinInt + 99, math.MaxInt - 1, math.MaxInt}
}

// chosen is the definition of the value that a leader must propose: it tries all ballots, the high ones first.
func chosen(replies []state, own int) int {
	for ballot := 20; ballot >= 1; ballot-- {
		for _, reply := range replies {
			if reply.Accepted == ballot {
				return reply.Value
			}
		}
	}
	return own
}

func highestAccepted(replies []state) int {
	highest := 0
	for _, reply := range replies {
		highest = max(highest, reply.Accepted)
	}
	return highest
}

// acceptedApart reports whether no two of the replies accepted the same ballot.
func acceptedApart(replies []state) bool {
	var seen [21]int
	for _, reply := range replies {
		seen[reply.Accepted]++
	}
	return slices.Max(seen[1:]) <= 1
}

// replyLists returns lists of valid states: all short ones of a few states, and longer ones of all kinds of states.
func replyLists() [][]state {
	lists := [][]state{nil, {}}
	level := [][]state{nil}
	for range 3 {
		var next [][]state
		for _, list := range level {
			for _, reply := range fewStates() {
				next = append(next, append(slices.Clone(list), reply))
			}
		}
		lists = append(lists, next...)
		level = next
	}
	idle, all := statesWithValues(), allStates()
	for _, length := range []int{6, 7, 21, 64, 1000} {
		for stride := 1; stride <= 12000; stride += 977 {
			lists = append(lists, strided(idle, stride, length), strided(all, stride, length))
		}
	}
	return append(lists, listsAcceptedApart()...)
}

// strided returns a list of the given length that takes every stride-th state, from the start again behind the last.
func strided(states []state, stride int, length int) []state {
	list := make([]state, length)
	for i := range list {
		list[i] = states[(i+1)*stride%len(states)]
	}
	return list
}

// listsAcceptedApart returns lists of replies that accepted different ballots, with those that accepted nothing between them.
func listsAcceptedApart() [][]state {
	var lists [][]state
	for first := 1; first <= 20; first++ {
		for step := 1; step <= 20; step += 2 {
			var list []state
			for i := range 20 {
				// Any step but 19 visits all ballots from 1 to 19 before it returns to the first.
				ballot := (first+i*step)%19 + 1
				list = append(list, state{min(20, ballot+i), ballot, 99 - i - first}, state{Promised: i})
				if acceptedApart(list) && i%3 == 2 {
					lists = append(lists, slices.Clone(list))
				}
			}
		}
	}
	return lists
}

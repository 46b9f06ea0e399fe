package tests

import (
	"math"
	"slices"
)

// decision has the fields of a log entry; it need not be valid.
type decision struct {
	Value  int
	Config int
}

func command(v int) decision {
	return decision{Value: v}
}

func change(c int) decision {
	return decision{Config: c}
}

// commands returns count commands with different values.
func commands(count int) []decision {
	var log []decision
	for i := range count {
		log = append(log, command(i*7%99+1))
	}
	return log
}

// changeAt returns the log with a change to c instead of the entry at index i.
func changeAt(log []decision, i int, c int) []decision {
	log = slices.Clone(log)
	log[i] = change(c)
	return log
}

// configsBySlot is the definition of the configurations of the slots that are determined, slot by slot:
// the first two use configuration 1, and each entry determines one more, which uses that of the slot before it unless the entry is a change.
func configsBySlot(log []decision) []int {
	configs := []int{1, 1}
	for _, d := range log {
		next := configs[len(configs)-1]
		if d.Config != 0 {
			next = d.Config
		}
		configs = append(configs, next)
	}
	return configs
}

// commandValues returns the values of the commands of a valid log.
func commandValues(log []decision) []int {
	var values []int
	for _, d := range log {
		if d.Value != 0 {
			values = append(values, d.Value)
		}
	}
	return values
}

// entriesOver returns entries over n configurations: the least and the largest values and some others, and all changes.
func entriesOver(n int) []decision {
	all := []decision{command(1), command(2), command(50), command(98), command(99)}
	for c := 1; c <= n; c++ {
		all = append(all, change(c))
	}
	return all
}

// logsOver returns logs over n configurations: all short ones of some entries,
// and all longer ones that differ in which of their entries are changes.
func logsOver(n int) [][]decision {
	logs := [][]decision{nil, {}}
	level := [][]decision{nil}
	for range 3 {
		var next [][]decision
		for _, log := range level {
			for _, d := range entriesOver(n) {
				next = append(next, append(slices.Clone(log), d))
			}
		}
		logs = append(logs, next...)
		level = next
	}
	for length := 4; length <= 12; length++ {
		for mask := range 1 << length {
			logs = append(logs, maskedLog(n, length, mask))
		}
	}
	return logs
}

// maskedLog returns a log whose changes are the bits of mask; which configurations they name depends on mask too.
func maskedLog(n int, length int, mask int) []decision {
	log := make([]decision, length)
	for i := range log {
		if mask>>i&1 == 1 {
			log[i] = change((mask/3+i*(mask%7))%n + 1)
		} else {
			log[i] = command((mask*13+i*31)%99 + 1)
		}
	}
	return log
}

// fewLogs returns logs over n configurations of all lengths, for the tests that combine them with many other arguments.
func fewLogs(n int) [][]decision {
	logs := [][]decision{nil, {}, {change(n)}, {change(n), change(1)}, {change(1), change(n)}}
	for length := 1; length <= 12; length++ {
		log := commands(length)
		logs = append(logs, log, changeAt(log, 0, n), changeAt(log, length-1, n), maskedLog(n, length, 0b011010110101), maskedLog(n, length, 1<<12-1))
	}
	return logs
}

// notEntries returns decisions that are no entries over n configurations, with those that the document names first.
func notEntries(n int) []decision {
	all := []decision{
		{}, {1, 1}, {5, n}, {99, n}, {99, 1}, {5, n + 1}, {100, 1}, {-1, 1}, {0, n + 1}, {0, -1}, {5, -1}, {99, -1}, {-1, -1},
		{math.MaxInt, math.MaxInt}, {math.MinInt, math.MinInt}, {math.MinInt, math.MaxInt}, {math.MaxInt, math.MinInt},
		{1, math.MinInt}, {99, math.MinInt}, {math.MinInt, 1}, {math.MaxInt, n},
		// A value and a configuration that cancel each other when they are added.
		{7, -7}, {-2, 2}, {-n, n}, {1, -1},
	}
	for _, v := range oddValues() {
		all = append(all, command(v))
		if v != 0 {
			all = append(all, decision{v, 1}, decision{v, n})
		}
	}
	for _, c := range oddConfigs(n) {
		all = append(all, change(c))
		if c != 0 {
			all = append(all, decision{1, c}, decision{42, c}, decision{99, c})
		}
	}
	return all
}

// oddConfigs returns numbers that are not one of n configurations, some of which look valid when only their low bits are kept.
func oddConfigs(n int) []int {
	return []int{0, -1, -2, -n, n + 1, n + 2, 6, 7, 12, 99, 100, -254, 256, 257, 256 + n, 1<<16 + 1, 1 << 32, 1<<32 + 1, 1<<32 + n, math.MinInt, math.MinInt + 1, math.MinInt + n, math.MaxInt - 1, math.MaxInt}
}

// oddSizes returns numbers of configurations that are out of range, some of which look valid when only their low bits are kept.
func oddSizes() []int {
	return []int{0, -1, -2, -5, -251, -254, 6, 7, 8, 12, 99, 256, 257, 258, 261, 1<<16 + 2, 1 << 32, 1<<32 + 2, 1<<32 + 5, math.MinInt, math.MinInt + 1, math.MinInt + 2, math.MinInt + 5, math.MaxInt - 1, math.MaxInt}
}

// longLogs returns logs over any number of configurations that only have too many entries.
func longLogs() [][]decision {
	var logs [][]decision
	for _, length := range []int{13, 14, 24, 255, 256, 257, 268, 1000, 1<<16 + 5} {
		log := commands(length)
		logs = append(logs, log, changeAt(log, 0, 1), changeAt(log, length-1, 1), slices.Repeat([]decision{change(1)}, length))
	}
	return logs
}

// spoiltLogs returns logs over n configurations with one decision that is no entry, or one instead of an entry.
func spoiltLogs(n int) [][]decision {
	var logs [][]decision
	for i, bad := range notEntries(n) {
		logs = append(logs, []decision{bad}, []decision{bad, bad})
		for k, log := range fewLogs(n) {
			if len(log) == 0 || (i+k)%3 != 0 {
				continue
			}
			// The first index, the last one, and one between.
			for _, at := range []int{0, len(log) - 1, (i + k) % len(log)} {
				spoilt := slices.Clone(log)
				spoilt[at] = bad
				logs = append(logs, spoilt)
			}
		}
	}
	return logs
}

// oddSlots returns numbers that are not determined slots of a log of the given length, some of which look so when only their low bits are kept.
func oddSlots(length int) []int {
	return []int{
		-1, -2, -3, -12, -13, -14, -length - 1, -length - 2, -250, -255, -256,
		length + 2, length + 3, length + 4, 2*length + 4, 14, 15, 99, 256, 257, 258, 256 + length, 1<<16 + 1, 1 << 32, 1<<32 + 1, 1<<32 + length,
		math.MinInt, math.MinInt + 1, math.MinInt + 2, math.MinInt + 3, math.MinInt + length, math.MaxInt - length, math.MaxInt - 2, math.MaxInt - 1, math.MaxInt,
	}
}

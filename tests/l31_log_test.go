package tests

import (
	"slices"
	"testing"

	"loop.example/flexquorum/impl"
)

// implLog returns the log in new memory; it is nil only for nil.
func implLog(log []decision) []impl.LogEntry {
	if log == nil {
		return nil
	}
	list := make([]impl.LogEntry, len(log))
	for i, d := range log {
		list[i] = impl.LogEntry(d)
	}
	return list
}

func plainLog(log []impl.LogEntry) []decision {
	var list []decision
	for _, e := range log {
		list = append(list, decision(e))
	}
	return list
}

func checkConfigOf(t *testing.T, log []decision, n int, slot int, want int) {
	t.Helper()
	if got := impl.LogConfig(implLog(log), n, slot); got != want {
		t.Fatalf("LogConfig(%v, %d, %d) is %d, not %d", log, n, slot, got, want)
	}
}

func checkAppend(t *testing.T, log []decision, n int, e decision, want []decision, wantOk bool) {
	t.Helper()
	if got, ok := impl.LogAppend(implLog(log), n, impl.LogEntry(e)); ok != wantOk || !slices.Equal(plainLog(got), want) {
		t.Fatalf("LogAppend(%v, %d, %v) is %v, %v, not %v, %v", log, n, e, got, ok, want, wantOk)
	}
}

func checkOpen(t *testing.T, log []decision, n int, want []int) {
	t.Helper()
	if got := impl.LogOpen(implLog(log), n); !slices.Equal(got, want) {
		t.Fatalf("LogOpen(%v, %d) is %v, not %v", log, n, got, want)
	}
}

func checkValues(t *testing.T, log []decision, n int, want []int) {
	t.Helper()
	if got := impl.LogValues(implLog(log), n); !slices.Equal(got, want) {
		t.Fatalf("LogValues(%v, %d) is %v, not %v", log, n, got, want)
	}
}

func checkLogValid(t *testing.T, log []decision, n int, want bool) {
	t.Helper()
	if got := impl.LogValid(implLog(log), n); got != want {
		t.Fatalf("LogValid(%v, %d) is %v", log, n, got)
	}
}

// checkLog checks everything that is known of a valid log, given the configurations of its determined slots.
func checkLog(t *testing.T, log []decision, n int, configs []int, values []int) {
	t.Helper()
	checkLogValid(t, log, n, true)
	checkConfigOf(t, log, n, -1, 0)
	for slot, c := range configs {
		checkConfigOf(t, log, n, slot, c)
	}
	checkConfigOf(t, log, n, len(configs), 0)
	checkOpen(t, log, n, configs[len(log):])
	checkValues(t, log, n, values)
}

// forEachLog calls check with logs over all numbers of configurations.
func forEachLog(check func(log []decision, n int)) {
	for n := 1; n <= 5; n++ {
		for _, log := range logsOver(n) {
			check(log, n)
		}
	}
}

// forEachGrowth calls check with logs that are not full and entries for them.
func forEachGrowth(check func(log []decision, n int, e decision)) {
	forEachLog(func(log []decision, n int) {
		if len(log) == 12 {
			return
		}
		for _, e := range entriesOver(n) {
			check(log, n, e)
		}
	})
}

// configsOf returns the configurations of all determined slots.
func configsOf(log []impl.LogEntry, n int) []int {
	var configs []int
	for slot := range len(log) + 2 {
		configs = append(configs, impl.LogConfig(log, n, slot))
	}
	return configs
}

func TestLimitsOfLogs(t *testing.T) {
	if impl.MaxLog != 12 || impl.MaxConfigs != 5 || impl.Pipeline != 2 {
		t.Errorf("MaxLog is %d, MaxConfigs is %d and Pipeline is %d", impl.MaxLog, impl.MaxConfigs, impl.Pipeline)
	}
}

// The other tests rely on the logs being varied.
func TestLogsCoverTheEdges(t *testing.T) {
	var seen [14]int
	count := func(index int, is bool) {
		if is {
			seen[index]++
		}
	}
	forEachLog(func(log []decision, n int) {
		isChange := func(d decision) bool { return d.Config != 0 }
		count(0, log == nil)
		count(1, log != nil && len(log) == 0)
		count(2, len(log) == 12)
		count(3, len(log) > 0 && !slices.ContainsFunc(log, isChange))
		count(4, len(log) > 1 && !slices.Contains(configFields(log), 0))
		for i, d := range log {
			if !isChange(d) {
				continue
			}
			count(5, len(log) > 2 && i == 0)
			count(6, len(log) > 2 && i == len(log)-1)
			count(7, d.Config == 5)
			count(8, n == 1)
			count(9, d.Config == 1 && configsBySlot(log)[i+1] > 1)
			follows := i > 0 && isChange(log[i-1])
			count(10, follows && log[i-1].Config < d.Config)
			count(11, follows && log[i-1].Config > d.Config)
			count(12, follows && log[i-1].Config == d.Config)
			count(13, i > 2 && log[i-2].Config == d.Config && !isChange(log[i-1]))
		}
	})
	if slices.Contains(seen[:], 0) {
		t.Errorf("numbers of logs: %v", seen)
	}
}

// configFields returns the configurations that a log names; it is 0 for commands.
func configFields(log []decision) []int {
	var configs []int
	for _, d := range log {
		configs = append(configs, d.Config)
	}
	return configs
}

func TestSomeLogs(t *testing.T) {
	tests := []struct {
		log     []decision
		n       int
		configs []int
		values  []int
	}{
		{nil, 1, []int{1, 1}, nil},
		{[]decision{}, 5, []int{1, 1}, nil},
		{[]decision{command(5)}, 2, []int{1, 1, 1}, []int{5}},
		{[]decision{command(5), change(2)}, 2, []int{1, 1, 1, 2}, []int{5}},
		// A change at the first index, at the last one, and at the only one.
		{[]decision{change(2)}, 2, []int{1, 1, 2}, nil},
		{[]decision{change(3), command(5), command(6)}, 3, []int{1, 1, 3, 3, 3}, []int{5, 6}},
		{[]decision{command(5), command(6), change(3)}, 3, []int{1, 1, 1, 1, 3}, []int{5, 6}},
		// Changes one behind the other, to others, back and to the same.
		{[]decision{change(2), change(3)}, 3, []int{1, 1, 2, 3}, nil},
		{[]decision{change(3), change(2)}, 3, []int{1, 1, 3, 2}, nil},
		{[]decision{change(2), change(1)}, 3, []int{1, 1, 2, 1}, nil},
		{[]decision{change(1), change(2)}, 3, []int{1, 1, 1, 2}, nil},
		{[]decision{change(2), change(2)}, 3, []int{1, 1, 2, 2}, nil},
		{[]decision{change(1)}, 1, []int{1, 1, 1}, nil},
		{[]decision{change(1), command(99), change(1)}, 1, []int{1, 1, 1, 1, 1}, []int{99}},
		{[]decision{change(2), command(1), change(4), command(99), command(1), change(3)}, 4, []int{1, 1, 2, 2, 4, 4, 4, 3}, []int{1, 99, 1}},
		{[]decision{change(5), change(4), change(3), change(2), change(1)}, 5, []int{1, 1, 5, 4, 3, 2, 1}, nil},
		// The order and the number of equal values count.
		{[]decision{command(9), command(8), command(8), command(9), command(7)}, 2, []int{1, 1, 1, 1, 1, 1, 1}, []int{9, 8, 8, 9, 7}},
		// Full logs.
		{commands(12), 1, []int{1, 1, 1, 1, 1, 1, 1, 1, 1, 1, 1, 1, 1, 1}, []int{1, 8, 15, 22, 29, 36, 43, 50, 57, 64, 71, 78}},
		{changeAt(commands(12), 0, 2), 2, []int{1, 1, 2, 2, 2, 2, 2, 2, 2, 2, 2, 2, 2, 2}, []int{8, 15, 22, 29, 36, 43, 50, 57, 64, 71, 78}},
		{changeAt(commands(12), 11, 5), 5, []int{1, 1, 1, 1, 1, 1, 1, 1, 1, 1, 1, 1, 1, 5}, []int{1, 8, 15, 22, 29, 36, 43, 50, 57, 64, 71}},
		{changeAt(changeAt(commands(12), 10, 4), 11, 3), 4, []int{1, 1, 1, 1, 1, 1, 1, 1, 1, 1, 1, 1, 4, 3}, []int{1, 8, 15, 22, 29, 36, 43, 50, 57, 64}},
		{slices.Repeat([]decision{change(5)}, 12), 5, []int{1, 1, 5, 5, 5, 5, 5, 5, 5, 5, 5, 5, 5, 5}, nil},
	}
	for _, test := range tests {
		checkLog(t, test.log, test.n, test.configs, test.values)
	}
}

func TestAllThatIsKnownOfLogs(t *testing.T) {
	forEachLog(func(log []decision, n int) {
		checkLog(t, log, n, configsBySlot(log), commandValues(log))
	})
}

// A log is built from the empty one on, until it is full.
func TestLogsGrow(t *testing.T) {
	forEachLog(func(log []decision, n int) {
		if len(log) < 12 {
			return
		}
		var grown []impl.LogEntry
		for i, d := range log {
			next, ok := impl.LogAppend(grown, n, impl.LogEntry(d))
			if !ok || !slices.Equal(plainLog(next), log[:i+1]) {
				t.Fatalf("LogAppend(%v, %d, %v) is %v, %v", grown, n, d, next, ok)
			}
			grown = next
		}
		checkAppend(t, plainLog(grown), n, command(1), log, false)
	})
}

// Promise 121: the last change that is at least two entries before a slot decides it, or configuration 1.
func TestPromise121(t *testing.T) {
	forEachLog(func(log []decision, n int) {
		for slot := range len(log) + 2 {
			want := 1
			for i := 0; i <= slot-impl.Pipeline; i++ {
				if log[i].Config != 0 {
					want = log[i].Config
				}
			}
			checkConfigOf(t, log, n, slot, want)
		}
	})
}

// Promise 122: appending does not change what was determined.
func TestPromise122(t *testing.T) {
	forEachGrowth(func(log []decision, n int, e decision) {
		before := configsOf(implLog(log), n)
		longer, ok := impl.LogAppend(implLog(log), n, impl.LogEntry(e))
		if after := configsOf(longer, n); !ok || !slices.Equal(after[:len(before)], before) {
			t.Fatalf("appending %v changes the configurations of %v from %v to %v", e, log, before, after)
		}
	})
	// Nor do many entries.
	for n := 1; n <= 5; n++ {
		for _, log := range fewLogs(n) {
			before := configsOf(implLog(log), n)
			longer := implLog(log)
			for i := len(log); i < 12; i++ {
				longer, _ = impl.LogAppend(longer, n, impl.LogEntry(change(i%n+1)))
			}
			if after := configsOf(longer, n); len(after) != 14 || !slices.Equal(after[:len(before)], before) {
				t.Fatalf("appending changes until the log is full changes the configurations of %v from %v to %v", log, before, after)
			}
		}
	}
}

// Promise 123: the entries from one before a slot on do not matter for it. No prefix is shorter than the empty one.
func TestPromise123(t *testing.T) {
	forEachLog(func(log []decision, n int) {
		for slot, c := range configsOf(implLog(log), n) {
			prefix := log[:max(0, slot-(impl.Pipeline-1))]
			checkConfigOf(t, prefix, n, slot, c)
			if len(prefix) > 0 {
				// The prefix without its last entry does not determine the slot.
				checkConfigOf(t, prefix[:len(prefix)-1], n, slot, 0)
			}
		}
	})
}

// Promise 124: the open slots are the next two.
func TestPromise124(t *testing.T) {
	forEachLog(func(log []decision, n int) {
		given := implLog(log)
		var want []int
		for slot := len(log); slot <= len(log)+impl.Pipeline-1; slot++ {
			want = append(want, impl.LogConfig(given, n, slot))
		}
		if got := impl.LogOpen(given, n); len(got) != impl.Pipeline || !slices.Equal(got, want) {
			t.Fatalf("LogOpen(%v, %d) is %v, not %v", log, n, got, want)
		}
	})
}

// Promise 125: an entry closes the first open slot, and a change decides the new one. A command leaves it to the configuration before.
func TestPromise125(t *testing.T) {
	forEachGrowth(func(log []decision, n int, e decision) {
		before := impl.LogOpen(implLog(log), n)
		next := e.Config
		if next == 0 {
			next = before[len(before)-1]
		}
		longer, _ := impl.LogAppend(implLog(log), n, impl.LogEntry(e))
		if after, want := impl.LogOpen(longer, n), append(slices.Clone(before[1:]), next); !slices.Equal(after, want) {
			t.Fatalf("appending %v changes the open configurations of %v from %v to %v", e, log, before, after)
		}
	})
}

// Promise 126: an entry can be appended, and nothing else changes, unless the log is full; then nothing changes.
func TestPromise126(t *testing.T) {
	forEachGrowth(func(log []decision, n int, e decision) {
		checkAppend(t, log, n, e, append(slices.Clone(log), e), true)
	})
	forEachLog(func(log []decision, n int) {
		if len(log) == 12 {
			checkAppend(t, log, n, change(n), log, false)
			checkAppend(t, log, n, command(len(commandValues(log))+1), log, false)
		}
	})
	for n := 1; n <= 5; n++ {
		for v := 1; v <= 99; v++ {
			checkAppend(t, commands(11), n, command(v), append(commands(11), command(v)), true)
			checkAppend(t, commands(12), n, command(v), commands(12), false)
		}
	}
}

// Promise 127: the values of the commands are listed, and nothing of the changes.
func TestPromise127(t *testing.T) {
	forEachLog(func(log []decision, n int) {
		var want []int
		for _, d := range log {
			if d.Config == 0 {
				want = append(want, d.Value)
			}
		}
		checkValues(t, log, n, want)
	})
	for v := 1; v <= 99; v++ {
		checkValues(t, []decision{command(v), change(5), command(100 - v), command(v)}, 5, []int{v, 100 - v, v})
	}
}

// Promise 128: prefixes of a valid log are valid, and a log with an entry that has both or neither is not.
func TestPromise128(t *testing.T) {
	forEachLog(func(log []decision, n int) {
		for length := range len(log) + 1 {
			checkLogValid(t, log[:length], n, true)
		}
		for i, d := range log {
			spoilt := slices.Clone(log)
			for _, bad := range []decision{{}, {1, 1}, {99, n}, {max(1, d.Value), max(1, d.Config)}} {
				spoilt[i] = bad
				checkLogValid(t, spoilt, n, false)
			}
		}
	})
}

// Promise 129: a command adds its value behind the others, and a change adds none.
func TestPromise129(t *testing.T) {
	forEachGrowth(func(log []decision, n int, e decision) {
		want := impl.LogValues(implLog(log), n)
		if e.Config == 0 {
			want = append(want, e.Value)
		}
		longer, _ := impl.LogAppend(implLog(log), n, impl.LogEntry(e))
		checkValues(t, plainLog(longer), n, want)
	})
}

// Promise 130: the configuration changes from a slot to the next one only behind a change, and then to the one that it names.
func TestPromise130(t *testing.T) {
	forEachLog(func(log []decision, n int) {
		configs := configsOf(implLog(log), n)
		for slot := 1; slot < len(configs); slot++ {
			if configs[slot] == configs[slot-1] {
				continue
			}
			if at := slot - impl.Pipeline; at < 0 || log[at].Config != configs[slot] {
				t.Fatalf("the configurations of %v are %v", log, configs)
			}
		}
	})
}

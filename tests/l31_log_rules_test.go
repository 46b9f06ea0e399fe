package tests

import (
	"slices"
	"sync"
	"testing"

	"loop.example/flexquorum/impl"
)

// checkNoLog checks that nothing is known of an invalid log, and that nothing can be appended.
func checkNoLog(t *testing.T, log []decision, n int) {
	t.Helper()
	given := implLog(log)
	if impl.LogValid(given, n) {
		t.Fatalf("LogValid of %d entries %v is true for %d configurations", len(log), log[:min(len(log), 14)], n)
	}
	for _, slot := range append([]int{0, 1, 2, 11, 12, 13, len(log) - 1, len(log), len(log) + 1}, oddSlots(len(log))...) {
		if got := impl.LogConfig(given, n, slot); got != 0 {
			t.Fatalf("LogConfig(%v, %d, %d) is %d", log, n, slot, got)
		}
	}
	for _, e := range []decision{command(1), command(99), change(1), change(n), {}, {5, 1}} {
		if got, ok := impl.LogAppend(given, n, impl.LogEntry(e)); len(got) != 0 || ok {
			t.Fatalf("LogAppend(%v, %d, %v) is %v, %v", log, n, e, got, ok)
		}
	}
	if got := impl.LogOpen(given, n); len(got) != 0 {
		t.Fatalf("LogOpen(%v, %d) is %v", log, n, got)
	}
	if got := impl.LogValues(given, n); len(got) != 0 {
		t.Fatalf("LogValues(%v, %d) is %v", log, n, got)
	}
}

func TestNumbersOfConfigurationsOutOfRange(t *testing.T) {
	for _, n := range oddSizes() {
		for _, log := range append(fewLogs(1), fewLogs(5)...) {
			checkNoLog(t, log, n)
		}
	}
}

func TestLogsWithTooManyEntries(t *testing.T) {
	for n := 1; n <= 5; n++ {
		for _, log := range longLogs() {
			checkLogValid(t, log[:12], n, true)
			checkNoLog(t, log, n)
		}
		// Also if what is behind the limit is no entry, and if nothing is.
		checkNoLog(t, append(commands(12), decision{}), n)
		checkNoLog(t, make([]decision, 13), n)
	}
}

func TestLogsWithWhatIsNoEntry(t *testing.T) {
	for n := 1; n <= 5; n++ {
		for _, log := range spoiltLogs(n) {
			checkNoLog(t, log, n)
		}
	}
}

// A change names one of the n configurations, whichever others there could be.
func TestChangesToTheLastConfigurationAndBeyond(t *testing.T) {
	for n := 1; n <= 5; n++ {
		for c := -1; c <= 7; c++ {
			is := 1 <= c && c <= n
			for length := 1; length <= 12; length++ {
				for i := range length {
					log := changeAt(commands(length), i, c)
					if !is {
						checkNoLog(t, log, n)
						continue
					}
					checkLog(t, log, n, configsBySlot(log), commandValues(log))
				}
			}
			if is {
				checkAppend(t, commands(3), n, change(c), append(commands(3), change(c)), true)
			} else {
				checkAppend(t, commands(3), n, change(c), nil, false)
			}
		}
	}
}

// All values and configurations next to the limits, in all combinations.
func TestEntriesByBothFields(t *testing.T) {
	for n := 1; n <= 5; n++ {
		for value := -101; value <= 102; value++ {
			for config := -7; config <= 8; config++ {
				d := decision{value, config}
				want := 1 <= value && value <= 99 && config == 0 || value == 0 && 1 <= config && config <= n
				checkLogValid(t, []decision{d}, n, want)
				checkLogValid(t, []decision{command(3), d, change(1)}, n, want)
				if want {
					checkAppend(t, []decision{change(n)}, n, d, []decision{change(n), d}, true)
				} else {
					checkAppend(t, []decision{change(n)}, n, d, nil, false)
				}
			}
		}
	}
}

// The entry is checked before the length of the log: also a full one is not returned.
func TestAppendingWhatIsNoEntry(t *testing.T) {
	for n := 1; n <= 5; n++ {
		for _, bad := range notEntries(n) {
			for _, log := range fewLogs(n) {
				checkAppend(t, log, n, bad, nil, false)
			}
		}
	}
}

func TestSlotsThatAreNotDetermined(t *testing.T) {
	for n := 1; n <= 5; n++ {
		for _, log := range fewLogs(n) {
			given := implLog(log)
			for _, slot := range oddSlots(len(log)) {
				if got := impl.LogConfig(given, n, slot); got != 0 {
					t.Fatalf("LogConfig(%v, %d, %d) is %d", log, n, slot, got)
				}
			}
			for slot := -20; slot <= 40; slot++ {
				if got, determined := impl.LogConfig(given, n, slot), 0 <= slot && slot <= len(log)+1; determined != (got != 0) {
					t.Fatalf("LogConfig(%v, %d, %d) is %d", log, n, slot, got)
				}
			}
		}
	}
}

// The number of configurations limits what a log may name, and does nothing else.
func TestMoreConfigurations(t *testing.T) {
	for n := 1; n <= 5; n++ {
		for _, log := range fewLogs(n) {
			named := 1
			for _, d := range log {
				named = max(named, d.Config)
			}
			for other := 1; other <= 5; other++ {
				if other < named {
					checkNoLog(t, log, other)
				} else {
					checkLog(t, log, other, configsBySlot(log), commandValues(log))
				}
			}
		}
	}
}

// A nil slice and an empty one are the same.
func TestNilAndEmptyLogs(t *testing.T) {
	for _, log := range [][]impl.LogEntry{nil, {}, make([]impl.LogEntry, 0, 20)} {
		for n := 1; n <= 5; n++ {
			if !impl.LogValid(log, n) || !slices.Equal(configsOf(log, n), []int{1, 1}) || !slices.Equal(impl.LogOpen(log, n), []int{1, 1}) || len(impl.LogValues(log, n)) != 0 {
				t.Fatalf("the empty log over %d configurations is wrong", n)
			}
			for _, e := range entriesOver(n) {
				if got, ok := impl.LogAppend(log, n, impl.LogEntry(e)); !ok || !slices.Equal(plainLog(got), []decision{e}) {
					t.Fatalf("LogAppend(%v, %d, %v) is %v, %v", log, n, e, got, ok)
				}
			}
		}
		for _, n := range oddSizes() {
			if impl.LogValid(log, n) || len(impl.LogOpen(log, n)) != 0 || impl.LogConfig(log, n, 0) != 0 {
				t.Fatalf("the empty log is one over %d configurations", n)
			}
		}
	}
}

func entriesOf(log []impl.LogEntry) slice {
	return sliceOf(log, impl.LogEntry{Value: -77, Config: -77}, func(a impl.LogEntry, b impl.LogEntry) bool { return a == b })
}

// Neither is the log modified, nor do it and the results of several calls share memory, also where the log stays as it is.
func TestLogsShareNoMemory(t *testing.T) {
	for n := 1; n <= 5; n++ {
		logs := append(fewLogs(n), spoiltLogs(n)[:40]...)
		for i, log := range append(logs, commands(13)) {
			for _, room := range []int{0, 1, 30} {
				given := slices.Grow(implLog(log), room)
				list := []slice{entriesOf(given)}
				for range 2 {
					impl.LogValid(given, n)
					impl.LogConfig(given, n, i%14)
					for _, e := range []decision{command(42), change(n), {}} {
						longer, _ := impl.LogAppend(given, n, impl.LogEntry(e))
						list = append(list, entriesOf(longer))
					}
					list = append(list, numbersOf(impl.LogOpen(given, n)), numbersOf(impl.LogValues(given, n)))
					if !list[0].same() {
						t.Fatalf("a call modified %v", log)
					}
				}
				checkSlicesApart(t, list)
			}
		}
	}
}

// A log with several continuations: none of them shows in another, whatever room there is behind the log.
func TestContinuationsOfOneLog(t *testing.T) {
	for n := 1; n <= 5; n++ {
		for _, log := range fewLogs(n) {
			if len(log) > 10 {
				continue
			}
			given := slices.Grow(implLog(log), 30)
			first, _ := impl.LogAppend(given, n, impl.LogEntry{Value: 11})
			second, _ := impl.LogAppend(given, n, impl.LogEntry{Config: n})
			third, _ := impl.LogAppend(first, n, impl.LogEntry{Value: 33})
			fourth, _ := impl.LogAppend(first, n, impl.LogEntry{Config: 1})
			want := [][]decision{log, {command(11)}, {change(n)}, {command(11), command(33)}, {command(11), change(1)}}
			for i, got := range [][]impl.LogEntry{given, first, second, third, fourth} {
				if i > 0 {
					want[i] = slices.Concat(log, want[i])
				}
				if !slices.Equal(plainLog(got), want[i]) {
					t.Fatalf("a continuation of %v is %v, not %v", log, got, want[i])
				}
			}
		}
	}
}

// Calls at the same time, and calls that fail before, change nothing.
func TestLogsKeepNoState(t *testing.T) {
	var callers sync.WaitGroup
	for caller := range 4 {
		callers.Go(func() {
			for n := 1; n <= 5; n++ {
				spoilt := spoiltLogs(n)
				for i, log := range fewLogs(n) {
					given, bad := implLog(log), implLog(spoilt[(i*7+caller)%len(spoilt)])
					e := entriesOver(n)[(i+caller)%(n+5)]
					impl.LogAppend(bad, n, impl.LogEntry(e))
					impl.LogAppend(given, n, impl.LogEntry{})
					impl.LogConfig(bad, n, 2)
					impl.LogOpen(bad, n)
					impl.LogValues(bad, n)
					for range 2 {
						want, wantOk := log, len(log) < 12
						if wantOk {
							want = append(slices.Clone(log), e)
						}
						if got, ok := impl.LogAppend(given, n, impl.LogEntry(e)); ok != wantOk || !slices.Equal(plainLog(got), want) {
							t.Errorf("LogAppend(%v, %d, %v) is %v, %v", log, n, e, got, ok)
						}
						configs := configsBySlot(log)
						if !slices.Equal(configsOf(given, n), configs) || !slices.Equal(impl.LogOpen(given, n), configs[len(log):]) {
							t.Errorf("the configurations of %v are wrong", log)
						}
						if got := impl.LogValues(given, n); !impl.LogValid(given, n) || !slices.Equal(got, commandValues(log)) {
							t.Errorf("LogValues(%v, %d) is %v", log, n, got)
						}
					}
				}
			}
		})
	}
	callers.Wait()
}

package tests

import (
	"math/rand/v2"
	"slices"
	"strconv"
	"sync"
	"testing"

	"loop.example/flexquorum/impl"
)

func leaseActive(l term, now int, drift int) bool {
	return impl.LeaseActive(impl.Lease(l), now, drift)
}

func leaseExpired(l term, now int, drift int) bool {
	return impl.LeaseExpired(impl.Lease(l), now, drift)
}

func checkActive(t *testing.T, l term, now int, drift int, want bool) {
	t.Helper()
	if got := leaseActive(l, now, drift); got != want {
		t.Fatalf("LeaseActive(%v, %d, %d) is %v", l, now, drift, got)
	}
}

func checkExpired(t *testing.T, l term, now int, drift int, want bool) {
	t.Helper()
	if got := leaseExpired(l, now, drift); got != want {
		t.Fatalf("LeaseExpired(%v, %d, %d) is %v", l, now, drift, got)
	}
}

// checkGrant checks the answer to a holder that asks for the term next.
func checkGrant(t *testing.T, l term, next term, drift int, want term, wantOk bool) {
	t.Helper()
	got, ok := impl.LeaseGrant(impl.Lease(l), next.Holder, next.Start, next.Length, drift)
	if term(got) != want || ok != wantOk {
		t.Fatalf("LeaseGrant(%v, %d, %d, %d, %d) is %v, %v, not %v, %v", l, next.Holder, next.Start, next.Length, drift, got, ok, want, wantOk)
	}
}

// checkGranted checks that a holder gets the term that it asks for, or that the old one stays.
func checkGranted(t *testing.T, l term, next term, drift int, granted bool) {
	t.Helper()
	want := l
	if granted {
		want = next
	}
	checkGrant(t, l, next, drift, want, granted)
}

func TestLimitOfClockReadings(t *testing.T) {
	if impl.MaxTime != 999 {
		t.Errorf("MaxTime is %d", impl.MaxTime)
	}
}

func TestReadingsOfSomeLeases(t *testing.T) {
	tests := []struct {
		l         term
		drift     int
		active    []int
		inactive  []int
		expired   []int
		unexpired []int
	}{
		{term{}, 0, nil, []int{0, 1, 500, 999}, []int{0, 1, 500, 999}, nil},
		{term{}, 99, nil, []int{0, 99, 999}, []int{0, 1, 98, 99, 999}, nil},
		{term{2, 10, 20}, 3, []int{10, 11, 26}, []int{0, 9, 27, 28, 30, 33}, []int{33, 34, 999}, []int{0, 9, 10, 27, 30, 32}},
		// Without drift, the lease expires at the reading behind its last active one.
		{term{2, 10, 20}, 0, []int{10, 29}, []int{9, 30}, []int{30, 31}, []int{0, 9, 10, 29}},
		{term{2, 100, 200}, 99, []int{100, 200}, []int{99, 201, 300}, []int{399, 400}, []int{300, 398}},
		// A drift that is as long as the lease leaves it no active reading, and one that is longer neither.
		{term{2, 10, 21}, 20, []int{10}, []int{9, 11}, []int{51}, []int{50}},
		{term{2, 10, 20}, 20, nil, []int{9, 10, 11, 29}, []int{50}, []int{49}},
		{term{2, 10, 20}, 21, nil, []int{8, 9, 10, 11, 29}, []int{51}, []int{50}},
		{term{2, 10, 20}, 99, nil, []int{0, 9, 10, 30}, []int{129}, []int{128}},
		{term{1, 0, 1}, 0, []int{0}, []int{1}, []int{1}, []int{0}},
		{term{1, 0, 1}, 1, nil, []int{0, 1}, []int{2}, []int{0, 1}},
		// These end at or after MaxTime.
		{term{6, 900, 99}, 0, []int{900, 998}, []int{899, 999}, []int{999}, []int{998}},
		{term{6, 900, 99}, 1, []int{900, 997}, []int{998, 999}, nil, []int{998, 999}},
		{term{6, 900, 100}, 0, []int{900, 999}, []int{899}, nil, []int{0, 900, 999}},
		{term{6, 850, 100}, 49, []int{850, 900}, []int{901}, []int{999}, []int{998}},
		{term{6, 850, 100}, 50, []int{899}, []int{900}, nil, []int{999}},
		{term{6, 999, 999}, 99, []int{999}, []int{0, 998}, nil, []int{0, 999}},
		{term{6, 999, 1}, 0, []int{999}, []int{998}, nil, []int{999}},
		{term{6, 999, 1}, 1, nil, []int{998, 999}, nil, []int{999}},
	}
	for _, test := range tests {
		for _, now := range test.active {
			checkActive(t, test.l, now, test.drift, true)
		}
		for _, now := range test.inactive {
			checkActive(t, test.l, now, test.drift, false)
		}
		for _, now := range test.expired {
			checkExpired(t, test.l, now, test.drift, true)
		}
		for _, now := range test.unexpired {
			checkExpired(t, test.l, now, test.drift, false)
		}
	}
}

func TestSomeGrants(t *testing.T) {
	l := term{2, 10, 20}
	tests := []struct {
		l       term
		next    term
		drift   int
		granted bool
	}{
		{term{}, term{2, 10, 20}, 3, true},
		{term{}, term{1, 0, 1}, 0, true},
		{term{}, term{6, 999, 999}, 99, true},
		// Another holder waits until the lease has expired.
		{l, term{1, 32, 5}, 3, false}, {l, term{1, 33, 5}, 3, true}, {l, term{1, 34, 5}, 3, true},
		{l, term{1, 29, 5}, 0, false}, {l, term{1, 30, 5}, 0, true},
		{l, term{1, 128, 5}, 99, false}, {l, term{1, 129, 5}, 99, true},
		{l, term{1, 10, 20}, 3, false}, {l, term{3, 12, 999}, 3, false}, {l, term{1, 9, 999}, 3, false}, {l, term{6, 0, 999}, 0, false},
		// The same holder extends its lease, not before its start and not to an earlier end.
		{l, term{2, 9, 20}, 3, false}, {l, term{2, 9, 21}, 3, false}, {l, term{2, 9, 999}, 3, false}, {l, term{2, 0, 999}, 0, false},
		{l, term{2, 10, 19}, 3, false}, {l, term{2, 10, 20}, 3, true}, {l, term{2, 10, 21}, 3, true},
		{l, term{2, 12, 17}, 3, false}, {l, term{2, 12, 18}, 3, true}, {l, term{2, 12, 19}, 3, true}, {l, term{2, 12, 20}, 3, true},
		{l, term{2, 29, 1}, 3, true}, {l, term{2, 28, 1}, 3, false},
		// Also when it is no longer active, or never was, but has not expired.
		{l, term{2, 27, 2}, 3, false}, {l, term{2, 27, 3}, 3, true}, {l, term{2, 30, 1}, 3, true}, {l, term{2, 32, 1}, 3, true},
		{l, term{2, 10, 20}, 99, true}, {l, term{2, 100, 1}, 99, true},
		// And it gets a new lease when the old one has expired.
		{l, term{2, 33, 1}, 3, true}, {l, term{2, 999, 999}, 3, true},
		// Leases that end after MaxTime do not expire, but are extended.
		{term{6, 900, 100}, term{1, 999, 999}, 0, false}, {term{6, 900, 99}, term{1, 999, 999}, 0, true}, {term{6, 900, 99}, term{1, 999, 999}, 1, false},
		{term{6, 999, 999}, term{6, 999, 999}, 99, true}, {term{6, 999, 999}, term{6, 999, 998}, 99, false},
		{term{6, 900, 999}, term{6, 999, 899}, 0, false}, {term{6, 900, 999}, term{6, 999, 900}, 0, true}, {term{6, 900, 999}, term{6, 999, 901}, 0, true},
	}
	for _, test := range tests {
		checkGranted(t, test.l, test.next, test.drift, test.granted)
	}
}

// forEachReading calls check with the readings near the edges of all kinds of leases, and with all readings of a few.
func forEachReading(check func(l term, now int, drift int)) {
	for _, l := range append(validTerms(), shortTerms()...) {
		for _, drift := range append(someDrifts(), max(0, min(99, l.Length))) {
			for _, now := range readingsNear(l, drift) {
				check(l, now, drift)
			}
		}
	}
	for _, l := range fewTerms() {
		for drift := range 100 {
			for now := range 1000 {
				check(l, now, drift)
			}
		}
	}
}

// The other tests rely on the readings being varied.
func TestReadingsCoverTheEdges(t *testing.T) {
	seen := map[string]int{}
	count := func(name string, is bool) {
		if is {
			seen[name]++
		}
	}
	forEachReading(func(l term, now int, drift int) {
		count("no lease", l == term{})
		held := l != term{}
		for _, step := range []int{-1, 0, 1} {
			at := strconv.Itoa(step)
			count("start "+at, held && now == l.Start+step)
			count("safe end "+at, held && drift > 0 && now == l.end()-drift+step)
			count("end "+at, held && drift > 0 && now == l.end()+step)
			count("late end "+at, held && drift > 0 && now == l.end()+drift+step)
		}
		count("drift 0", held && drift == 0)
		count("drift 99", held && drift == 99)
		count("drift as long", held && drift == l.Length)
		count("drift longer", held && drift > l.Length)
		count("behind MaxTime", held && l.end() > 1000)
	})
	if len(seen) != 18 {
		t.Errorf("the readings are %v", seen)
	}
}

// Promise 113: two clocks that differ by at most the drift do not show a lease as both active and expired.
func TestPromise113(t *testing.T) {
	for _, l := range append(validTerms(), shortTerms()...) {
		for _, drift := range someDrifts() {
			var active, expired []int
			for now := range 1000 {
				if leaseActive(l, now, drift) {
					active = append(active, now)
				}
				if leaseExpired(l, now, drift) {
					expired = append(expired, now)
				}
			}
			checkExclusive(t, l, active, expired, drift)
		}
	}
}

// checkExclusive checks that no active reading is within drift of an expired one; both lists ascend.
func checkExclusive(t *testing.T, l term, active []int, expired []int, drift int) {
	t.Helper()
	for _, now := range active {
		first, _ := slices.BinarySearch(expired, now-drift)
		if first < len(expired) && expired[first] <= now+drift {
			t.Fatalf("with drift %d, %v is active at %d and has expired at %d", drift, l, now, expired[first])
		}
	}
}

// Promise 114: a lease is active from its start on, until the drift before its end.
func TestPromise114(t *testing.T) {
	forEachReading(func(l term, now int, drift int) {
		checkActive(t, l, now, drift, l.active(now, drift))
	})
}

// Promise 115: a lease has expired from the drift behind its end on, and no lease always has.
func TestPromise115(t *testing.T) {
	forEachReading(func(l term, now int, drift int) {
		checkExpired(t, l, now, drift, l.expired(now, drift))
	})
	for _, l := range validTerms() {
		for _, drift := range someDrifts() {
			expired := false
			for now := range 1000 {
				if expired && !leaseExpired(l, now, drift) {
					t.Fatalf("with drift %d, %v had expired before %d", drift, l, now)
				}
				expired = leaseExpired(l, now, drift)
			}
		}
	}
}

// Promise 116: a grant needs an expired lease or an extension, and what is granted starts now; otherwise the lease stays.
func TestPromise116(t *testing.T) {
	check := func(l term, next term, drift int) {
		checkGranted(t, l, next, drift, l.granted(next, drift))
	}
	for _, l := range shortTerms() {
		for now := range 16 {
			for length := 1; length <= 8; length++ {
				for drift := range 5 {
					for holder := 1; holder <= 3; holder++ {
						check(l, term{holder, now, length}, drift)
					}
				}
			}
		}
	}
	for _, l := range validTerms() {
		for _, drift := range someDrifts() {
			for _, now := range readingsNear(l, drift) {
				for _, length := range lengthsNear(l, now) {
					check(l, term{max(1, l.Holder), now, length}, drift)
					check(l, term{7 - max(1, l.Holder), now, length}, drift)
				}
			}
		}
	}
}

// Every member can be granted every lease when there is none, and extend it; no other member gets it then.
func TestEveryMemberCanHoldALease(t *testing.T) {
	for holder := 1; holder <= 6; holder++ {
		for _, next := range validTerms() {
			if next.Holder == 0 {
				continue
			}
			next.Holder = holder
			checkGranted(t, term{}, next, 7, true)
			for other := 1; other <= 6; other++ {
				checkGranted(t, next, term{other, next.Start, 999}, 7, other == holder)
			}
		}
	}
}

// Promise 117: when another holder gets the lease, the previous one does not rely on it any more, at any clock that differs by at most the drift.
func TestPromise117(t *testing.T) {
	for _, l := range append(fewTerms(), shortTerms()...) {
		for _, drift := range someDrifts() {
			for now := range 1000 {
				other := l.Holder%6 + 1
				if _, ok := impl.LeaseGrant(impl.Lease(l), other, now, 20, drift); !ok {
					continue
				}
				for clock := max(0, now-drift); clock <= min(999, now+drift); clock++ {
					if leaseActive(l, clock, drift) {
						t.Fatalf("with drift %d, another holder gets %v at %d, and it is active at %d", drift, l, now, clock)
					}
				}
			}
		}
	}
}

// Promise 117, over a sequence of grants: members with clocks of their own ask one store for its lease, and never do two of them rely on it.
func TestHoldersFollowEachOther(t *testing.T) {
	changes, extensions, relied := 0, 0, 0
	for _, drift := range someDrifts() {
		for seed := range uint64(40) {
			source := rand.New(rand.NewPCG(seed, uint64(drift)))
			var ahead [7]int
			for m := range ahead {
				ahead[m] = source.IntN(drift + 1)
			}
			var stored impl.Lease
			var own [7]impl.Lease
			for now := range 1000 - drift {
				m := source.IntN(6) + 1
				next, ok := impl.LeaseGrant(stored, m, now+ahead[m], source.IntN(3*drift+9)+1, drift)
				if ok && stored.Holder == m {
					extensions++
				} else if ok {
					changes++
				}
				if ok {
					stored, own[m] = next, next
				}
				holders := 0
				for m := 1; m <= 6; m++ {
					if impl.LeaseActive(own[m], now+ahead[m], drift) {
						holders++
					}
				}
				relied += holders
				if holders > 1 {
					t.Fatalf("with drift %d and the clocks %v, %d members rely on a lease at %d: %v", drift, ahead, holders, now, own)
				}
			}
		}
	}
	if changes < 1000 || extensions < 1000 || relied < 1000 {
		t.Errorf("%d changes, %d extensions, %d readings of an active lease", changes, extensions, relied)
	}
}

// Promise 118: no lease is valid, and so is a lease with a holder and times in range.
func TestPromise118(t *testing.T) {
	if !impl.LeaseValid(impl.Lease{}) {
		t.Error("LeaseValid(Lease{}) is false")
	}
	for holder := -1; holder <= 7; holder++ {
		for start := -2; start <= 1001; start++ {
			for length := -2; length <= 1001; length++ {
				l := term{holder, start, length}
				want := l == term{} || 1 <= holder && holder <= 6 && 0 <= start && start <= 999 && 1 <= length && length <= 999
				if got := impl.LeaseValid(impl.Lease(l)); got != want {
					t.Fatalf("LeaseValid(%v) is %v", l, got)
				}
			}
		}
	}
	for _, l := range invalidTerms() {
		if impl.LeaseValid(impl.Lease(l)) {
			t.Fatalf("LeaseValid(%v) is true", l)
		}
	}
}

// Promise 119: an active lease can be renewed, and does not get shorter.
func TestPromise119(t *testing.T) {
	renewed := 0
	forEachReading(func(l term, now int, drift int) {
		if !leaseActive(l, now, drift) {
			return
		}
		renewed++
		got, ok := impl.LeaseGrant(impl.Lease(l), l.Holder, now, l.Length, drift)
		if !ok || term(got) != (term{l.Holder, now, l.Length}) || got.Start+got.Length < l.end() {
			t.Fatalf("with drift %d, %v is active at %d, but renewing it gives %v, %v", drift, l, now, got, ok)
		}
	})
	if renewed < 1000 {
		t.Errorf("only %d active leases were renewed", renewed)
	}
}

// Promise 120: what holds with a drift bound holds with all smaller ones.
func TestPromise120(t *testing.T) {
	for _, l := range append(fewTerms(), validTerms()...) {
		for _, now := range slices.Concat(readingsNear(l, 0), readingsNear(l, 1), readingsNear(l, 50), readingsNear(l, 99)) {
			for drift := 1; drift < 100; drift++ {
				if leaseActive(l, now, drift) && !leaseActive(l, now, drift-1) || leaseExpired(l, now, drift) && !leaseExpired(l, now, drift-1) {
					t.Fatalf("the drift %d gives more for %v at %d than the drift before", drift, l, now)
				}
			}
		}
	}
	// While the edges are clock readings, each step of the drift takes one reading away.
	l := term{2, 300, 200}
	for drift := range 100 {
		active, expired := 0, 0
		for now := range 1000 {
			if leaseActive(l, now, drift) {
				active++
			}
			if leaseExpired(l, now, drift) {
				expired++
			}
		}
		if active != 200-drift || expired != 500-drift {
			t.Fatalf("with drift %d, %v is active at %d readings and has expired at %d", drift, l, active, expired)
		}
	}
}

// An invalid lease is neither active nor expired, and grants nothing, not even itself.
func TestInvalidLeases(t *testing.T) {
	for _, l := range invalidTerms() {
		for _, now := range append([]int{0, 1, 10, 15, 500, 999}, oddReadings()...) {
			for _, drift := range []int{0, 3, 99, -1, 100} {
				checkActive(t, l, now, drift, false)
				checkExpired(t, l, now, drift, false)
				checkGrant(t, l, term{l.Holder, now, 999}, drift, term{}, false)
				checkGrant(t, l, term{2, now, 999}, drift, term{}, false)
			}
		}
	}
}

func TestInvalidReadings(t *testing.T) {
	for _, l := range validTerms() {
		for _, now := range oddReadings() {
			for _, drift := range someDrifts() {
				checkActive(t, l, now, drift, false)
				checkExpired(t, l, now, drift, false)
				checkGrant(t, l, term{max(1, l.Holder), now, 999}, drift, term{}, false)
				checkGrant(t, l, term{3, now, 1}, drift, term{}, false)
			}
		}
	}
}

func TestInvalidDrifts(t *testing.T) {
	for _, l := range validTerms() {
		for _, drift := range oddDrifts() {
			for _, now := range append(readingsNear(l, 0), oddReadings()...) {
				checkActive(t, l, now, drift, false)
				checkExpired(t, l, now, drift, false)
				checkGrant(t, l, term{max(1, l.Holder), now, 999}, drift, term{}, false)
				checkGrant(t, l, term{3, now, 999}, drift, term{}, false)
			}
		}
	}
}

// Invalid arguments give the zero value, where a grant with valid ones would succeed and where the lease would stay.
func TestGrantsWithInvalidArguments(t *testing.T) {
	for _, l := range validTerms() {
		for _, drift := range []int{0, 3, 99} {
			for _, now := range readingsNear(l, drift) {
				for _, m := range oddMembers() {
					checkGrant(t, l, term{m, now, 999}, drift, term{}, false)
				}
				for _, length := range oddLengths() {
					checkGrant(t, l, term{max(1, l.Holder), now, length}, drift, term{}, false)
					checkGrant(t, l, term{3, now, length}, drift, term{}, false)
				}
			}
		}
		// No holder, no time and no length together look like no lease.
		checkGrant(t, l, term{}, 0, term{}, false)
	}
}

// The conversions to term compile only as long as a lease is three numbers, which share no memory.
func TestLeasesShareNoMemory(t *testing.T) {
	for _, l := range validTerms() {
		given := impl.Lease(l)
		impl.LeaseValid(given)
		impl.LeaseActive(given, 15, 3)
		impl.LeaseExpired(given, 15, 3)
		refused, _ := impl.LeaseGrant(given, 5, 0, 20, 99)
		granted, _ := impl.LeaseGrant(given, max(1, l.Holder), 999, 999, 3)
		want := term(granted)
		refused.Holder, refused.Start, refused.Length = -77, -77, -77
		if term(given) != l || term(granted) != want {
			t.Fatalf("the lease %v became %v, and %v became %v", l, given, want, granted)
		}
	}
}

// Calls at the same time, and calls that fail or are refused before, change nothing.
func TestLeasesKeepNoState(t *testing.T) {
	terms := validTerms()
	var callers sync.WaitGroup
	for caller := range 4 {
		callers.Go(func() {
			for i, l := range terms {
				drift := (i*13 + caller) % 100
				next := term{(i+caller)%6 + 1, (i*37 + caller) % 1000, (i*53+caller)%999 + 1}
				impl.LeaseGrant(impl.Lease{Holder: 1}, 1, 0, 999, 0)
				impl.LeaseGrant(impl.Lease(l), next.Holder, next.Start, 0, drift)
				for range 2 {
					want, granted := l, l.granted(next, drift)
					if granted {
						want = next
					}
					if got, ok := impl.LeaseGrant(impl.Lease(l), next.Holder, next.Start, next.Length, drift); ok != granted || term(got) != want {
						t.Errorf("LeaseGrant(%v, %d, %d, %d, %d) is %v, %v", l, next.Holder, next.Start, next.Length, drift, got, ok)
					}
				}
				if leaseActive(l, next.Start, drift) != l.active(next.Start, drift) || leaseExpired(l, next.Start, drift) != l.expired(next.Start, drift) {
					t.Errorf("with drift %d, %v is wrong at %d", drift, l, next.Start)
				}
			}
		})
	}
	callers.Wait()
}

package tests

import (
	"math"
	"slices"
)

// term has the fields of a lease; it need not be valid.
type term struct {
	Holder int
	Start  int
	Length int
}

// end is the first clock reading behind a valid term.
func (l term) end() int {
	return l.Start + l.Length
}

// active is the definition of an active lease, reading by reading: the last drift of the readings that the term covers do not count.
func (l term) active(now int, drift int) bool {
	for i := range l.Length - drift {
		if l.Start+i == now {
			return true
		}
	}
	return false
}

// expired is the definition of an expired lease: it has lasted for its length and for the drift, or there is none.
func (l term) expired(now int, drift int) bool {
	return l.Holder == 0 || now-l.Start-l.Length >= drift
}

// granted is the definition of a grant: whether next can follow l.
func (l term) granted(next term, drift int) bool {
	if l.expired(next.Start, drift) {
		return true
	}
	sameHolder, early, shorter := l.Holder == next.Holder, next.Start < l.Start, next.end() < l.end()
	return sameHolder && !early && !shorter
}

// validTerms returns the term of no lease, and leases with the least and largest starts and lengths and some others.
func validTerms() []term {
	all := []term{{}}
	for _, holder := range []int{1, 2, 6} {
		for _, start := range []int{0, 1, 10, 499, 850, 900, 998, 999} {
			for _, length := range []int{1, 2, 20, 98, 99, 100, 101, 149, 500, 998, 999} {
				all = append(all, term{holder, start, length})
			}
		}
	}
	return all
}

// shortTerms returns no lease and all leases of two holders with small starts and lengths.
func shortTerms() []term {
	all := []term{{}}
	for holder := 1; holder <= 2; holder++ {
		for start := range 6 {
			for length := 1; length <= 6; length++ {
				all = append(all, term{holder, start, length})
			}
		}
	}
	return all
}

// fewTerms returns valid terms for the tests that combine them with many other arguments.
func fewTerms() []term {
	return []term{{}, {2, 10, 20}, {1, 0, 1}, {6, 999, 999}, {3, 0, 999}, {4, 999, 1}, {5, 900, 99}, {1, 900, 100}, {2, 300, 99}, {2, 300, 100}}
}

func someDrifts() []int {
	return []int{0, 1, 2, 3, 20, 50, 98, 99}
}

// readingsNear returns the clock readings next to those where a lease changes, and the least and largest readings.
func readingsNear(l term, drift int) []int {
	all := []int{0, 1, 998, 999}
	for _, edge := range []int{l.Start, l.end() - drift, l.end(), l.end() + drift} {
		for now := edge - 2; now <= edge+2; now++ {
			if now >= 0 && now <= 999 {
				all = append(all, now)
			}
		}
	}
	slices.Sort(all)
	return slices.Compact(all)
}

// lengthsNear returns lengths, among them those with which a term from now on ends next to the end of l.
func lengthsNear(l term, now int) []int {
	all := []int{1, 2, 20, 99, 100, 998, 999}
	for length := l.end() - now - 2; length <= l.end()-now+2; length++ {
		if length >= 1 && length <= 999 {
			all = append(all, length)
		}
	}
	return all
}

// invalidTerms returns terms that are neither a lease nor no lease, with those that the document names first.
func invalidTerms() []term {
	all := []term{
		{0, 0, 1}, {0, 1, 0}, {0, 10, 20}, {0, 999, 999}, {0, 0, 999}, {0, -1, 0}, {0, 0, -1}, {0, 999, 0},
		{1, 0, 0}, {2, 10, 0}, {6, 999, 0}, {-1, 10, 20}, {7, 10, 20}, {-1, 0, 0}, {7, 0, 0},
		{2, -1, 20}, {2, 1000, 20}, {2, 10, -1}, {2, 10, 1000}, {2, -1, 2}, {2, -5, 999}, {2, 1000, -1},
		{math.MaxInt, math.MaxInt, math.MaxInt}, {math.MinInt, math.MinInt, math.MinInt},
		{1, math.MaxInt, math.MaxInt}, {1, math.MinInt, math.MinInt}, {1, math.MaxInt, 1}, {1, 1, math.MaxInt},
		{1, math.MinInt, math.MaxInt}, {1, math.MaxInt, math.MinInt}, {0, math.MinInt, math.MinInt}, {0, math.MaxInt, 1},
	}
	for _, l := range fewTerms() {
		for _, m := range oddMembers() {
			if m != 0 || l.Holder != 0 {
				all = append(all, term{m, l.Start, l.Length})
			}
		}
		for _, start := range oddReadings() {
			all = append(all, term{l.Holder, start, l.Length})
		}
		for _, length := range oddLengths() {
			if length != 0 || l.Holder != 0 {
				all = append(all, term{l.Holder, l.Start, length})
			}
		}
	}
	return all
}

// oddReadings returns numbers that are not clock readings, some of which look valid when only their low bits are kept.
func oddReadings() []int {
	return []int{-1, -2, -10, -99, -999, -1000, 1000, 1001, 1024, 1<<16 + 15, 1 << 32, 1<<32 + 15, 1<<32 + 999, math.MinInt, math.MinInt + 1, math.MinInt + 15, math.MinInt + 999, math.MaxInt - 999, math.MaxInt - 1, math.MaxInt}
}

// oddLengths returns numbers that are not lengths.
func oddLengths() []int {
	return append([]int{0}, oddReadings()...)
}

// oddDrifts returns numbers that are not drift bounds, some of which look valid when only their low bits are kept.
func oddDrifts() []int {
	return []int{-1, -2, -3, -99, -100, -253, 100, 101, 127, 128, 255, 256, 259, 999, 1000, 1<<16 + 3, 1 << 32, 1<<32 + 3, 1<<32 + 99, math.MinInt, math.MinInt + 1, math.MinInt + 3, math.MinInt + 99, math.MaxInt - 99, math.MaxInt - 1, math.MaxInt}
}

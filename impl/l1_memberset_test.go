package impl

import (
	"slices"
	"testing"
)

// Later chapters rely on the order of the subsets, which no exported function shows.
func TestSubsetsAscend(t *testing.T) {
	for s := noMembers; s <= allMembers; s++ {
		var want []memberBits
		for mask := range int(s) + 1 {
			if mask&int(s) == mask {
				want = append(want, memberBits(mask))
			}
		}
		if got := slices.Collect(s.subsets()); !slices.Equal(got, want) {
			t.Errorf("the subsets of %v are %v", s.members(), got)
		}
	}
}

func TestSubsetsStopWhenAsked(t *testing.T) {
	count := 0
	for s := range allMembers.subsets() {
		count++
		if s == 5 {
			break
		}
	}
	if count != 6 {
		t.Errorf("%d subsets before the end of the loop", count)
	}
}

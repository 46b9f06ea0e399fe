package impl

import (
	"iter"
	"math/bits"
	"strconv"
	"strings"
)

// MaxMembers is the largest number of members. Members are numbered from 1.
const MaxMembers = 6

// memberBits is a member set as its bit mask: bit m-1 is set if m is a member.
type memberBits uint8

const (
	noMembers  memberBits = 0
	allMembers memberBits = 1<<MaxMembers - 1
)

// firstMembers returns the set of the members 1 to n; n is in the range 0 to MaxMembers.
func firstMembers(n int) memberBits {
	return 1<<n - 1
}

func (s memberBits) contains(m int) bool {
	// The range comes first: a shift by a negative number panics.
	return m >= 1 && m <= MaxMembers && s>>(m-1)&1 == 1
}

// with returns s with m added; m is in the range 1 to MaxMembers.
func (s memberBits) with(m int) memberBits {
	return s | 1<<(m-1)
}

func (s memberBits) union(t memberBits) memberBits {
	return s | t
}

func (s memberBits) intersect(t memberBits) memberBits {
	return s & t
}

func (s memberBits) minus(t memberBits) memberBits {
	return s &^ t
}

func (s memberBits) subsetOf(t memberBits) bool {
	return s.minus(t) == noMembers
}

func (s memberBits) size() int {
	return bits.OnesCount8(uint8(s))
}

// smallest returns the smallest member of s; s is not empty.
func (s memberBits) smallest() int {
	return bits.TrailingZeros8(uint8(s)) + 1
}

// members returns the members of s in new memory, ascending.
func (s memberBits) members() []int {
	var list []int
	for m := 1; m <= MaxMembers; m++ {
		if s.contains(m) {
			list = append(list, m)
		}
	}
	return list
}

func (s memberBits) format() string {
	var words []string
	for _, m := range s.members() {
		words = append(words, strconv.Itoa(m))
	}
	return "{" + strings.Join(words, ",") + "}"
}

// subsets yields the subsets of s by ascending masks, from the empty set to s itself.
func (s memberBits) subsets() iter.Seq[memberBits] {
	return func(yield func(memberBits) bool) {
		for t := noMembers; t <= s; t++ {
			if t.subsetOf(s) && !yield(t) {
				return
			}
		}
	}
}

// bitsOf returns the bit set of s, and whether s is a valid member set.
func bitsOf(s []int) (memberBits, bool) {
	set := noMembers
	last := 0
	for _, m := range s {
		if m <= last || m > MaxMembers {
			return noMembers, false
		}
		set = set.with(m)
		last = m
	}
	return set, true
}

// bitsOfBoth returns the bit sets of a and b, and whether both are valid member sets.
func bitsOfBoth(a []int, b []int) (memberBits, memberBits, bool) {
	x, validA := bitsOf(a)
	y, validB := bitsOf(b)
	if !validA || !validB {
		return noMembers, noMembers, false
	}
	return x, y, true
}

// SetValid reports whether s is a member set: ascending members in the range 1 to MaxMembers.
func SetValid(s []int) bool {
	_, ok := bitsOf(s)
	return ok
}

// SetContains reports whether the valid member set s contains m.
func SetContains(s []int, m int) bool {
	set, ok := bitsOf(s)
	return ok && set.contains(m)
}

// SetUnion returns the union of two member sets, or an empty set if one is invalid.
func SetUnion(a []int, b []int) []int {
	x, y, ok := bitsOfBoth(a, b)
	if !ok {
		return nil
	}
	return x.union(y).members()
}

// SetIntersect returns the intersection of two member sets, or an empty set if one is invalid.
func SetIntersect(a []int, b []int) []int {
	x, y, ok := bitsOfBoth(a, b)
	if !ok {
		return nil
	}
	return x.intersect(y).members()
}

// SetMinus returns the members of a that are not in b, or an empty set if a or b is invalid.
func SetMinus(a []int, b []int) []int {
	x, y, ok := bitsOfBoth(a, b)
	if !ok {
		return nil
	}
	return x.minus(y).members()
}

// SetSubset reports whether a and b are valid and every member of a is in b.
func SetSubset(a []int, b []int) bool {
	x, y, ok := bitsOfBoth(a, b)
	return ok && x.subsetOf(y)
}

// SetMask returns the bit mask of a member set: bit m-1 is set if m is a member. It returns -1 if s is invalid.
func SetMask(s []int) int {
	set, ok := bitsOf(s)
	if !ok {
		return -1
	}
	return int(set)
}

// SetOfMask returns the member set with the given bit mask.
func SetOfMask(mask int) ([]int, bool) {
	// The range comes first: the conversion to memberBits drops high bits.
	if mask < 0 || mask > int(allMembers) {
		return nil, false
	}
	return memberBits(mask).members(), true
}

// SetFormat returns the textual form of a member set, such as {1,3}, or an empty string if s is invalid.
func SetFormat(s []int) string {
	set, ok := bitsOf(s)
	if !ok {
		return ""
	}
	return set.format()
}

// SetParse parses the textual form of a member set.
func SetParse(text string) ([]int, bool) {
	// Comparing with the form of every set accepts exactly what SetFormat writes.
	for s := range allMembers.subsets() {
		if s.format() == text {
			return s.members(), true
		}
	}
	return nil, false
}

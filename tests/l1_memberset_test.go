package tests

import (
	"math"
	"slices"
	"strings"
	"testing"

	"loop.example/flexquorum/impl"
)

func TestDocumentExamplesOfMemberSets(t *testing.T) {
	if impl.MaxMembers != 6 {
		t.Errorf("MaxMembers is %d", impl.MaxMembers)
	}
	if !impl.SetValid([]int{1, 3}) {
		t.Error("[1 3] is valid")
	}
	for _, s := range [][]int{{3, 1}, {1, 1}, {0}} {
		if impl.SetValid(s) {
			t.Errorf("%v is not valid", s)
		}
	}
	if mask := impl.SetMask([]int{1, 3}); mask != 5 {
		t.Errorf("the mask of [1 3] is %d", mask)
	}
	if text := impl.SetFormat([]int{1, 3}); text != "{1,3}" {
		t.Errorf("the form of [1 3] is %q", text)
	}
	if text := impl.SetFormat(nil); text != "{}" {
		t.Errorf("the form of the empty set is %q", text)
	}
}

func TestSetValidOfShortSlices(t *testing.T) {
	for _, s := range shortSlices() {
		if got := impl.SetValid(s); got != isValidSet(s) {
			t.Errorf("SetValid(%v) is %v", s, got)
		}
	}
	for _, s := range validSets() {
		if !impl.SetValid(s) {
			t.Errorf("SetValid(%v) is false", s)
		}
	}
}

// Promise 1: the members of a union.
func TestPromise1(t *testing.T) {
	for _, a := range validSets() {
		for _, b := range validSets() {
			u := impl.SetUnion(a, b)
			if !isValidSet(u) {
				t.Fatalf("SetUnion(%v, %v) is %v", a, b, u)
			}
			for m := 0; m <= 7; m++ {
				if slices.Contains(u, m) != (slices.Contains(a, m) || slices.Contains(b, m)) {
					t.Fatalf("SetUnion(%v, %v) is %v", a, b, u)
				}
			}
		}
	}
}

// Promise 2: the laws of unions.
func TestPromise2(t *testing.T) {
	for _, a := range validSets() {
		if !slices.Equal(impl.SetUnion(a, a), a) {
			t.Errorf("the union of %v with itself is not itself", a)
		}
		for _, empty := range [][]int{nil, {}} {
			if !slices.Equal(impl.SetUnion(a, empty), a) || !slices.Equal(impl.SetUnion(empty, a), a) {
				t.Errorf("the union of %v with the empty set is not itself", a)
			}
		}
		for _, b := range validSets() {
			ab := impl.SetUnion(a, b)
			if !slices.Equal(ab, impl.SetUnion(b, a)) {
				t.Fatalf("the union of %v and %v depends on the order", a, b)
			}
			for _, c := range validSets() {
				if !slices.Equal(impl.SetUnion(ab, c), impl.SetUnion(a, impl.SetUnion(b, c))) {
					t.Fatalf("the union of %v, %v and %v is not associative", a, b, c)
				}
			}
		}
	}
}

// Promise 3: the members of an intersection.
func TestPromise3(t *testing.T) {
	for _, a := range validSets() {
		for _, b := range validSets() {
			i := impl.SetIntersect(a, b)
			if !isValidSet(i) {
				t.Fatalf("SetIntersect(%v, %v) is %v", a, b, i)
			}
			for m := 0; m <= 7; m++ {
				if slices.Contains(i, m) != (slices.Contains(a, m) && slices.Contains(b, m)) {
					t.Fatalf("SetIntersect(%v, %v) is %v", a, b, i)
				}
			}
		}
	}
}

// Promise 4: intersection distributes over union.
func TestPromise4(t *testing.T) {
	for _, a := range validSets() {
		for _, b := range validSets() {
			for _, c := range validSets() {
				left := impl.SetIntersect(a, impl.SetUnion(b, c))
				right := impl.SetUnion(impl.SetIntersect(a, b), impl.SetIntersect(a, c))
				if !slices.Equal(left, right) {
					t.Fatalf("%v, %v, %v: %v is not %v", a, b, c, left, right)
				}
			}
		}
	}
}

// Promise 5: the members of a difference.
func TestPromise5(t *testing.T) {
	for _, a := range validSets() {
		for _, b := range validSets() {
			d := impl.SetMinus(a, b)
			if !isValidSet(d) {
				t.Fatalf("SetMinus(%v, %v) is %v", a, b, d)
			}
			for m := 0; m <= 7; m++ {
				if slices.Contains(d, m) != (slices.Contains(a, m) && !slices.Contains(b, m)) {
					t.Fatalf("SetMinus(%v, %v) is %v", a, b, d)
				}
			}
			if len(impl.SetIntersect(d, b)) != 0 || !slices.Equal(impl.SetUnion(d, impl.SetIntersect(a, b)), a) {
				t.Fatalf("SetMinus(%v, %v) is %v, which does not complete the intersection", a, b, d)
			}
		}
	}
}

// Promise 6: subsets and intersections; two sets that contain each other are equal.
func TestPromise6(t *testing.T) {
	for x, a := range validSets() {
		for y, b := range validSets() {
			got := impl.SetSubset(a, b)
			if got != (x&y == x) || got != slices.Equal(impl.SetIntersect(a, b), a) {
				t.Fatalf("SetSubset(%v, %v) is %v", a, b, got)
			}
			if got && impl.SetSubset(b, a) && x != y {
				t.Fatalf("%v and %v are subsets of each other", a, b)
			}
		}
	}
}

// Promise 7: a subset of a subset is a subset.
func TestPromise7(t *testing.T) {
	for _, a := range validSets() {
		for _, b := range validSets() {
			if !impl.SetSubset(a, b) {
				continue
			}
			for _, c := range validSets() {
				if impl.SetSubset(b, c) && !impl.SetSubset(a, c) {
					t.Fatalf("%v is not a subset of %v", a, c)
				}
			}
		}
	}
}

// Promise 8: masks stand for sets, one for one.
func TestPromise8(t *testing.T) {
	seen := map[int]bool{}
	for mask, s := range validSets() {
		got := impl.SetMask(s)
		if got != mask || seen[got] {
			t.Errorf("SetMask(%v) is %d", s, got)
		}
		seen[got] = true
		if back, ok := impl.SetOfMask(got); !ok || !slices.Equal(back, s) {
			t.Errorf("SetOfMask(%d) is %v, %v", got, back, ok)
		}
	}
}

// Promise 9: exactly the masks 0 to 63 have a set.
func TestPromise9(t *testing.T) {
	for mask := -300; mask <= 600; mask++ {
		checkSetOfMask(t, mask)
	}
	for bit := 1; bit > 0; bit <<= 1 {
		for low := range 64 {
			checkSetOfMask(t, bit|low)
			checkSetOfMask(t, math.MinInt|low)
			checkSetOfMask(t, -bit)
		}
	}
	checkSetOfMask(t, math.MaxInt)
}

func checkSetOfMask(t *testing.T, mask int) {
	t.Helper()
	s, ok := impl.SetOfMask(mask)
	if ok != (mask >= 0 && mask <= 63) {
		t.Fatalf("SetOfMask(%d) is %v, %v", mask, s, ok)
	}
	if ok && (impl.SetMask(s) != mask || !slices.Equal(s, validSets()[mask])) {
		t.Fatalf("SetOfMask(%d) is %v", mask, s)
	}
	if !ok && len(s) != 0 {
		t.Fatalf("SetOfMask(%d) fails with %v", mask, s)
	}
}

// Promise 10: the form of a set can be read back.
func TestPromise10(t *testing.T) {
	for _, s := range validSets() {
		text := impl.SetFormat(s)
		if text != textOf(s) {
			t.Errorf("SetFormat(%v) is %q", s, text)
		}
		if back, ok := impl.SetParse(text); !ok || !slices.Equal(back, s) {
			t.Errorf("SetParse(%q) is %v, %v", text, back, ok)
		}
	}
}

// Promise 11: only the forms of valid sets can be read.
func TestPromise11(t *testing.T) {
	for _, text := range oddTexts() {
		checkSetParse(t, text)
	}
	for _, text := range textsUpTo(4, "{},0126 7") {
		checkSetParse(t, text)
	}
	for _, s := range validSets() {
		for _, text := range changedTexts(textOf(s), "{},016 7\x00") {
			checkSetParse(t, text)
		}
	}
}

func checkSetParse(t *testing.T, text string) {
	t.Helper()
	want := slices.IndexFunc(validSets(), func(s []int) bool { return textOf(s) == text })
	s, ok := impl.SetParse(text)
	if ok != (want >= 0) {
		t.Fatalf("SetParse(%q) is %v, %v", text, s, ok)
	}
	if ok && (!impl.SetValid(s) || impl.SetFormat(s) != text || !slices.Equal(s, validSets()[want])) {
		t.Fatalf("SetParse(%q) is %v", text, s)
	}
	if !ok && len(s) != 0 {
		t.Fatalf("SetParse(%q) fails with %v", text, s)
	}
}

// oddTexts returns texts that a careless parser takes for a set.
func oddTexts() []string {
	return []string{
		"", "{", "}", "}{", "{}{}", "{{}}", "()", "[]", "[1]", "1", "1,2", "{1", "1}", "{,}", "{2,}", "{,2}", "{1,,2}",
		"{0}", "{7}", "{-1}", "{+1}", "{01}", "{1,02}", "{1.0}", "{0x1}", "{1e0}", "{1_1}", "{10}", "{12}", "{257}", "{18446744073709551617}",
		"{3,1}", "{1,1}", "{1,2,2}", "{6,6}", "{1,2,3,4,5,6,7}", "{0,1}", "{1,7}", "{1,2,3,4,5,6,6}", "{1;2}", "{1 2}",
		" {1}", "{1} ", "{ 1}", "{1 }", "{1, 2}", "{1 ,2}", "{ }", "{1}\n", "\n{1}", "{1}\x00", "\x00{1}", "{1\x00}", "{\t1}", "{1}{2}", "{1}}",
		"{\u0661}", "{\uff11}", "\ufeff{1}", "{1\uff0c2}", "{\xff}", "\xff\xfe", strings.Repeat("{", 1000), "{" + strings.Repeat("1,", 1000) + "1}",
	}
}

// textsUpTo returns all texts of at most length bytes of the alphabet.
func textsUpTo(length int, alphabet string) []string {
	all := []string{""}
	for first := 0; length > 0; length-- {
		last := len(all)
		for _, text := range all[first:last] {
			for i := range len(alphabet) {
				all = append(all, text+alphabet[i:i+1])
			}
		}
		first = last
	}
	return all
}

// changedTexts returns text with one byte removed, inserted or replaced.
func changedTexts(text string, alphabet string) []string {
	var all []string
	for at := range len(text) + 1 {
		for i := range len(alphabet) {
			all = append(all, text[:at]+alphabet[i:i+1]+text[at:])
			if at < len(text) {
				all = append(all, text[:at]+alphabet[i:i+1]+text[at+1:])
			}
		}
		if at < len(text) {
			all = append(all, text[:at]+text[at+1:])
		}
	}
	return all
}

// Promise 12: prefixes stay valid; a repeated last member and a member beyond the last one are not.
func TestPromise12(t *testing.T) {
	for _, s := range validSets() {
		for n := range len(s) + 1 {
			if !impl.SetValid(s[:n]) {
				t.Errorf("SetValid(%v) is false", s[:n])
			}
		}
		if n := len(s); n > 0 {
			if repeated := append(slices.Clone(s), s[n-1]); impl.SetValid(repeated) {
				t.Errorf("SetValid(%v) is true", repeated)
			}
		}
		if beyond := append(slices.Clone(s), impl.MaxMembers+1); impl.SetValid(beyond) {
			t.Errorf("SetValid(%v) is true", beyond)
		}
	}
	for _, s := range invalidSets() {
		if impl.SetValid(s) {
			t.Errorf("SetValid(%v) is true", s)
		}
	}
}

// Promise 13: a set contains its elements, and an invalid one contains nothing.
func TestPromise13(t *testing.T) {
	for _, s := range validSets() {
		for m := -2; m <= 9; m++ {
			if got := impl.SetContains(s, m); got != slices.Contains(s, m) {
				t.Errorf("SetContains(%v, %d) is %v", s, m, got)
			}
		}
		for _, m := range oddMembers() {
			if impl.SetContains(s, m) {
				t.Errorf("SetContains(%v, %d) is true", s, m)
			}
		}
	}
	for _, s := range invalidSets() {
		for _, m := range append(slices.Clone(s), 1, 2, 3, 4, 5, 6) {
			if impl.SetContains(s, m) {
				t.Fatalf("SetContains(%v, %d) is true", s, m)
			}
		}
	}
}

// Promise 14: union and intersection together keep sizes and masks.
func TestPromise14(t *testing.T) {
	for _, a := range validSets() {
		for _, b := range validSets() {
			u, i := impl.SetUnion(a, b), impl.SetIntersect(a, b)
			if len(u)+len(i) != len(a)+len(b) {
				t.Fatalf("sizes of %v and %v: union %v, intersection %v", a, b, u, i)
			}
			if impl.SetMask(u)+impl.SetMask(i) != impl.SetMask(a)+impl.SetMask(b) {
				t.Fatalf("masks of %v and %v: union %v, intersection %v", a, b, u, i)
			}
		}
	}
}

// Promise 15: the masks of a subset and of what it leaves.
func TestPromise15(t *testing.T) {
	pairs := 0
	for _, a := range validSets() {
		for _, b := range validSets() {
			if !impl.SetSubset(a, b) {
				continue
			}
			pairs++
			x, y := impl.SetMask(a), impl.SetMask(b)
			if x > y || impl.SetMask(impl.SetMinus(b, a)) != y-x {
				t.Fatalf("masks of %v and %v: %d, %d", a, b, x, y)
			}
		}
	}
	if pairs != 729 {
		t.Errorf("%d of 729 pairs are subsets", pairs)
	}
}

func TestInvalidSetsGiveEmptyResults(t *testing.T) {
	for _, s := range invalidSets() {
		if mask := impl.SetMask(s); mask != -1 {
			t.Fatalf("SetMask(%v) is %d", s, mask)
		}
		if text := impl.SetFormat(s); text != "" {
			t.Fatalf("SetFormat(%v) is %q", s, text)
		}
		checkInvalidPair(t, s, s)
		for _, v := range validSets() {
			checkInvalidPair(t, s, v)
			checkInvalidPair(t, v, s)
		}
	}
}

func checkInvalidPair(t *testing.T, a []int, b []int) {
	t.Helper()
	if len(impl.SetUnion(a, b)) != 0 || len(impl.SetIntersect(a, b)) != 0 || len(impl.SetMinus(a, b)) != 0 || impl.SetSubset(a, b) {
		t.Fatalf("%v and %v: an invalid set counts as a set", a, b)
	}
}

func TestEmptySetAndNilAreAlike(t *testing.T) {
	for _, empty := range [][]int{nil, {}, make([]int, 0, 5)} {
		if !impl.SetValid(empty) || impl.SetContains(empty, 1) || impl.SetMask(empty) != 0 || impl.SetFormat(empty) != "{}" {
			t.Errorf("%#v is the empty set", empty)
		}
		for _, other := range [][]int{nil, {}} {
			if !impl.SetSubset(empty, other) || len(impl.SetUnion(empty, other)) != 0 || len(impl.SetMinus(empty, other)) != 0 {
				t.Errorf("%#v and %#v are the same set", empty, other)
			}
		}
		if !impl.SetSubset(empty, []int{6}) || impl.SetSubset([]int{6}, empty) || len(impl.SetIntersect([]int{6}, empty)) != 0 {
			t.Errorf("%#v and [6]", empty)
		}
		if d := impl.SetMinus([]int{1, 6}, empty); !slices.Equal(d, []int{1, 6}) {
			t.Errorf("[1 6] without %#v is %v", empty, d)
		}
	}
	if s, ok := impl.SetParse("{}"); !ok || len(s) != 0 {
		t.Errorf("SetParse of {} is %v, %v", s, ok)
	}
	if s, ok := impl.SetOfMask(0); !ok || len(s) != 0 {
		t.Errorf("SetOfMask(0) is %v, %v", s, ok)
	}
}

// someSets returns valid and invalid sets for the tests of the general rules.
func someSets() [][]int {
	return append(validSets(), []int{3, 1}, []int{1, 1}, []int{0}, []int{-1}, []int{7}, []int{6, 5, 4, 3, 2, 1})
}

func setOperations() []func([]int, []int) []int {
	return []func([]int, []int) []int{impl.SetUnion, impl.SetIntersect, impl.SetMinus}
}

func TestMemberSetArgumentsAreNotModified(t *testing.T) {
	for _, s := range someSets() {
		a, longA := withSpare(s)
		wantA := slices.Clone(longA)
		impl.SetValid(a)
		impl.SetContains(a, 3)
		impl.SetMask(a)
		impl.SetFormat(a)
		for _, other := range someSets() {
			b, longB := withSpare(other)
			wantB := slices.Clone(longB)
			impl.SetSubset(a, b)
			for _, operation := range setOperations() {
				scribble(operation(a, b))
			}
			if !slices.Equal(longA, wantA) || !slices.Equal(longB, wantB) {
				t.Fatalf("%v and %v became %v and %v", wantA, wantB, longA, longB)
			}
		}
	}
}

func TestMemberSetResultsShareNoMemory(t *testing.T) {
	for _, a := range validSets() {
		for _, operation := range setOperations() {
			for _, b := range [][]int{a, nil, {1, 2, 3, 4, 5, 6}} {
				checkFresh(t, func() []int { return operation(a, b) })
				checkFresh(t, func() []int { return operation(b, a) })
			}
		}
		checkFresh(t, func() []int { s, _ := impl.SetOfMask(impl.SetMask(a)); return s })
		checkFresh(t, func() []int { s, _ := impl.SetParse(textOf(a)); return s })
	}
}

// checkFresh overwrites one result of a call and looks for the effect on others.
func checkFresh(t *testing.T, call func() []int) {
	t.Helper()
	first, second := call(), call()
	want := slices.Clone(second)
	scribble(first)
	if third := call(); !slices.Equal(second, want) || !slices.Equal(third, want) {
		t.Fatalf("writing to a result changed %v to %v and %v", want, second, third)
	}
}

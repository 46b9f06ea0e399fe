package tests

import (
	"fmt"
	"math"
	"slices"
	"strconv"
	"strings"
	"testing"

	"loop.example/flexquorum/impl"
)

func TestDocumentExamplesOfExpressions(t *testing.T) {
	if impl.MaxExprLen != 40 {
		t.Errorf("MaxExprLen is %d", impl.MaxExprLen)
	}
	for mask, s := range validSets() {
		majority := len(impl.SetIntersect(s, []int{1, 2, 3})) >= 2
		if got := impl.ExprSatisfied("2(1,2,3)", s); got != majority {
			t.Errorf("ExprSatisfied of 2(1,2,3) and %v is %v", s, got)
		}
		pairs := mask&3 != 0 && mask&12 != 0
		if got := impl.ExprSatisfied("2(1(1,2),1(3,4))", s); got != pairs {
			t.Errorf("ExprSatisfied of 2(1(1,2),1(3,4)) and %v is %v", s, got)
		}
	}
	if dual := impl.ExprDual("3(1,2,3)"); dual != "1(1,2,3)" {
		t.Errorf("the dual of 3(1,2,3) is %q", dual)
	}
}

// The other tests rely on the known expressions being varied.
func TestKnownExpressionsCoverTheEdges(t *testing.T) {
	lengths, depths := map[int]int{}, map[int]int{}
	for _, e := range knownExprs() {
		lengths[len(e.text)]++
		depths[e.depth]++
		if !isExpr(e.text) || !isExpr(e.dual) {
			t.Errorf("%q and %q are not both expressions", e.text, e.dual)
		}
	}
	if lengths[1] < 6 || lengths[39] == 0 || lengths[40] < 2 || len(overlongExpr()) != 41 {
		t.Errorf("numbers of expressions by length: %v", lengths)
	}
	if depths[1] < 50 || depths[2] < 50 || depths[3] < 20 || depths[13] == 0 {
		t.Errorf("numbers of expressions by depth: %v", depths)
	}
}

func TestKnownExpressions(t *testing.T) {
	for _, e := range knownExprs() {
		if !impl.ExprValid(e.text) {
			t.Fatalf("ExprValid(%q) is false", e.text)
		}
		if got := impl.ExprMembers(e.text); !slices.Equal(got, validSets()[e.members]) {
			t.Fatalf("ExprMembers(%q) is %v", e.text, got)
		}
		if got := impl.ExprDual(e.text); got != e.dual {
			t.Fatalf("ExprDual(%q) is %q, not %q", e.text, got, e.dual)
		}
		if got := impl.ExprDepth(e.text); got != e.depth {
			t.Fatalf("ExprDepth(%q) is %d, not %d", e.text, got, e.depth)
		}
		for mask, s := range validSets() {
			if got := impl.ExprSatisfied(e.text, s); got != e.satisfied[mask] {
				t.Fatalf("ExprSatisfied(%q, %v) is %v", e.text, s, got)
			}
		}
	}
}

// satisfiedMasks returns by mask which sets satisfy text.
func satisfiedMasks(text string) [64]bool {
	var satisfied [64]bool
	for mask, s := range validSets() {
		satisfied[mask] = impl.ExprSatisfied(text, s)
	}
	return satisfied
}

// Promise 16: supersets satisfy what a set satisfies.
func TestPromise16(t *testing.T) {
	for _, e := range knownExprs() {
		satisfied := satisfiedMasks(e.text)
		for small := range 64 {
			for large := range 64 {
				if small&large == small && satisfied[small] && !satisfied[large] {
					t.Fatalf("%q: mask %d satisfies it, mask %d does not", e.text, small, large)
				}
			}
		}
	}
}

// Promise 17: only the members that occur matter.
func TestPromise17(t *testing.T) {
	for _, e := range knownExprs() {
		members := impl.ExprMembers(e.text)
		for _, s := range validSets() {
			common := impl.SetIntersect(s, members)
			if impl.ExprSatisfied(e.text, s) != impl.ExprSatisfied(e.text, common) {
				t.Fatalf("%q: %v and %v differ", e.text, s, common)
			}
		}
	}
}

// Promise 18: the empty set satisfies nothing, and all members satisfy every expression.
func TestPromise18(t *testing.T) {
	for _, e := range knownExprs() {
		if impl.ExprSatisfied(e.text, nil) || impl.ExprSatisfied(e.text, []int{}) {
			t.Fatalf("the empty set satisfies %q", e.text)
		}
		if members := impl.ExprMembers(e.text); !impl.ExprSatisfied(e.text, members) {
			t.Fatalf("%v does not satisfy %q", members, e.text)
		}
	}
}

// Promise 19: the dual is satisfied by what leaves no quorum.
func TestPromise19(t *testing.T) {
	for _, e := range knownExprs() {
		satisfied, dual := satisfiedMasks(e.text), satisfiedMasks(impl.ExprDual(e.text))
		for mask := range 64 {
			if dual[mask] == satisfied[63-mask] {
				t.Fatalf("%q: mask %d satisfies the dual: %v", e.text, mask, dual[mask])
			}
		}
	}
}

// Promise 20: the dual of the dual, and what the dual keeps.
func TestPromise20(t *testing.T) {
	for _, e := range knownExprs() {
		dual := impl.ExprDual(e.text)
		if back := impl.ExprDual(dual); back != e.text {
			t.Fatalf("the dual of %q is %q, and its dual is %q", e.text, dual, back)
		}
		sameMembers := slices.Equal(impl.ExprMembers(dual), impl.ExprMembers(e.text))
		if !sameMembers || impl.ExprDepth(dual) != impl.ExprDepth(e.text) || len(dual) != len(e.text) {
			t.Fatalf("%q and its dual %q differ in members, depth or length", e.text, dual)
		}
	}
}

// Promise 21: a set of the expression and a set of its dual meet.
func TestPromise21(t *testing.T) {
	for _, e := range knownExprs() {
		satisfied, dual := satisfiedMasks(e.text), satisfiedMasks(impl.ExprDual(e.text))
		for s := range 64 {
			for d := range 64 {
				if satisfied[s] && dual[d] && s&d == 0 {
					t.Fatalf("%q: masks %d and %d are disjoint", e.text, s, d)
				}
			}
		}
	}
}

// oddThresholds returns numbers that are thresholds of no set.
func oddThresholds() []int {
	return []int{0, -1, -2, -6, 7, 8, 9, 10, 64, 255, 256, 257, 258, 1 << 32, 1<<32 + 1, math.MinInt, math.MinInt + 1, math.MaxInt}
}

// Promise 22: the thresholds of a set, and what satisfies them.
func TestPromise22(t *testing.T) {
	for _, s := range validSets() {
		for k := -3; k <= 10; k++ {
			checkThreshold(t, k, s)
		}
		for _, k := range oddThresholds() {
			checkThreshold(t, k, s)
		}
	}
}

func checkThreshold(t *testing.T, k int, s []int) {
	t.Helper()
	text, ok := impl.ExprThreshold(k, s)
	if ok != (k >= 1 && k <= len(s)) {
		t.Fatalf("ExprThreshold(%d, %v) is %q, %v", k, s, text, ok)
	}
	if !ok {
		if text != "" {
			t.Fatalf("ExprThreshold(%d, %v) fails with %q", k, s, text)
		}
		return
	}
	if want := strconv.Itoa(k) + "(" + strings.Trim(textOf(s), "{}") + ")"; text != want || !impl.ExprValid(text) {
		t.Fatalf("ExprThreshold(%d, %v) is %q", k, s, text)
	}
	for _, other := range validSets() {
		if got := impl.ExprSatisfied(text, other); got != (len(impl.SetIntersect(s, other)) >= k) {
			t.Fatalf("ExprSatisfied(%q, %v) is %v", text, other, got)
		}
	}
}

func TestThresholdOfInvalidSets(t *testing.T) {
	for _, s := range invalidSets() {
		for _, k := range append(oddThresholds(), 1, 2, 3, 4, 5, 6, len(s)) {
			if text, ok := impl.ExprThreshold(k, s); ok || text != "" {
				t.Fatalf("ExprThreshold(%d, %v) is %q, %v", k, s, text, ok)
			}
		}
	}
}

// Promise 23: the dual of a threshold of a set.
func TestPromise23(t *testing.T) {
	for _, s := range validSets() {
		for k := 1; k <= len(s); k++ {
			text, ok := impl.ExprThreshold(k, s)
			other, otherOk := impl.ExprThreshold(len(s)-k+1, s)
			if dual := impl.ExprDual(text); !ok || !otherOk || dual != other {
				t.Errorf("the dual of %q is %q, not %q", text, dual, other)
			}
		}
	}
}

// Promise 24: depths.
func TestPromise24(t *testing.T) {
	for m := 1; m <= 6; m++ {
		if depth := impl.ExprDepth(strconv.Itoa(m)); depth != 0 {
			t.Errorf("the depth of %d is %d", m, depth)
		}
	}
	for _, e := range knownExprs() {
		depth := impl.ExprDepth(e.text)
		if depth < 0 {
			t.Fatalf("the depth of %q is %d", e.text, depth)
		}
		outer := "1(" + e.text + ")"
		want := depth + 1
		if len(outer) > 40 {
			want = -1
		}
		if got := impl.ExprDepth(outer); got != want {
			t.Fatalf("the depth of %q is %d, not %d", outer, got, want)
		}
	}
}

// Promise 25: a threshold of one operand.
func TestPromise25(t *testing.T) {
	for _, e := range knownExprs() {
		outer := "1(" + e.text + ")"
		want := satisfiedMasks(e.text)
		if len(outer) > 40 {
			want = [64]bool{}
		}
		if got := satisfiedMasks(outer); got != want {
			t.Fatalf("%q and %q are satisfied by different sets", e.text, outer)
		}
	}
}

// Promise 26: a threshold of an expression and a member.
func TestPromise26(t *testing.T) {
	for _, e := range knownExprs() {
		satisfied := satisfiedMasks(e.text)
		for m := 1; m <= 6; m++ {
			var either, both [64]bool
			if len(e.text) <= 35 {
				for mask := range 64 {
					has := mask>>(m-1)&1 == 1
					either[mask] = satisfied[mask] || has
					both[mask] = satisfied[mask] && has
				}
			}
			if text := fmt.Sprintf("1(%s,%d)", e.text, m); satisfiedMasks(text) != either {
				t.Fatalf("%q is satisfied by other sets", text)
			}
			if text := fmt.Sprintf("2(%s,%d)", e.text, m); satisfiedMasks(text) != both {
				t.Fatalf("%q is satisfied by other sets", text)
			}
		}
	}
}

// Promise 27: changes that make text invalid.
func TestPromise27(t *testing.T) {
	for _, e := range knownExprs() {
		if !impl.ExprValid(e.text) {
			t.Fatalf("ExprValid(%q) is false", e.text)
		}
		for digit := range 10 {
			checkMalformed(t, e.text+strconv.Itoa(digit))
		}
		if n := len(e.text); n > 1 {
			checkMalformed(t, e.text[:n-1])
		}
	}
	checkMalformed(t, "7")
	checkMalformed(t, "0(1)")
}

func TestMalformedExpressions(t *testing.T) {
	for _, text := range malformedExprs() {
		if isExpr(text) {
			t.Errorf("%q is an expression", text)
		}
		checkMalformed(t, text)
	}
	for b := range 256 {
		text := string([]byte{byte(b)})
		if b < '1' || b > '6' {
			checkMalformed(t, text)
			checkMalformed(t, "1("+text+")")
		}
		checkMalformed(t, "2(1,2)"+text)
		checkMalformed(t, "2"+text+"1,2)"+text)
	}
}

// checkMalformed checks that no function takes text for an expression.
func checkMalformed(t *testing.T, text string) {
	t.Helper()
	shown := text[:min(len(text), 50)]
	if impl.ExprValid(text) {
		t.Fatalf("ExprValid(%q) is true", shown)
	}
	if got := impl.ExprMembers(text); len(got) != 0 {
		t.Fatalf("ExprMembers(%q) is %v", shown, got)
	}
	if got := impl.ExprDual(text); got != "" {
		t.Fatalf("ExprDual(%q) is %q", shown, got)
	}
	if got := impl.ExprDepth(text); got != -1 {
		t.Fatalf("ExprDepth(%q) is %d", shown, got)
	}
	for _, s := range [][]int{nil, {1}, {1, 2, 3, 4, 5, 6}, {7}, {0}} {
		if impl.ExprSatisfied(text, s) {
			t.Fatalf("%v satisfies %q", s, shown)
		}
	}
}

func checkValidity(t *testing.T, text string) {
	t.Helper()
	if !isExpr(text) {
		checkMalformed(t, text)
	} else if !impl.ExprValid(text) || impl.ExprDepth(text) < 0 || impl.ExprDual(text) == "" || len(impl.ExprMembers(text)) == 0 {
		t.Fatalf("%q is an expression", text)
	}
}

func TestShortAndChangedExpressions(t *testing.T) {
	for _, text := range textsUpTo(6, "()12,70") {
		checkValidity(t, text)
	}
	for i, e := range knownExprs() {
		if i%4 == 0 || len(e.text) >= 39 {
			for _, text := range changedTexts(e.text, "(),0167 \x80") {
				checkValidity(t, text)
			}
		}
	}
}

// The longest expression has 40 bytes, whatever it is built of.
func TestLengthOfExpressions(t *testing.T) {
	for _, e := range knownMembers() {
		for times := range 20 {
			text := nestedIn(e, times).text
			if got := impl.ExprValid(text); got != (len(text) <= 40) {
				t.Fatalf("ExprValid(%q) is %v with %d bytes", text, got, len(text))
			}
		}
	}
	if text := longestExpr().text; len(text) != 40 || !impl.ExprValid(text) {
		t.Errorf("ExprValid(%q) is false with %d bytes", text, len(text))
	}
	if text := overlongExpr(); len(text) != 41 || impl.ExprValid(text) {
		t.Errorf("ExprValid(%q) is true with %d bytes", text, len(text))
	}
}

// One to six operands, with every threshold.
func TestNumberOfOperands(t *testing.T) {
	for n := range 9 {
		operands := strings.TrimSuffix(strings.Repeat("3,", n), ",")
		for k := range 10 {
			text := fmt.Sprintf("%d(%s)", k, operands)
			want := n >= 1 && n <= 6 && k >= 1 && k <= n
			if got := impl.ExprValid(text); got != want {
				t.Errorf("ExprValid(%q) is %v", text, got)
			}
			if got := impl.ExprSatisfied(text, []int{3}); got != want {
				t.Errorf("[3] satisfies %q: %v", text, got)
			}
		}
	}
}

// Promise 28: duals of an expression and a member.
func TestPromise28(t *testing.T) {
	for _, e := range knownExprs() {
		dual := impl.ExprDual(e.text)
		for m := 1; m <= 6; m++ {
			one, two := fmt.Sprintf("2(%s,%d)", dual, m), fmt.Sprintf("1(%s,%d)", dual, m)
			if len(e.text) > 35 {
				one, two = "", ""
			}
			if got := impl.ExprDual(fmt.Sprintf("1(%s,%d)", e.text, m)); got != one {
				t.Fatalf("the dual of 1(%s,%d) is %q", e.text, m, got)
			}
			if got := impl.ExprDual(fmt.Sprintf("2(%s,%d)", e.text, m)); got != two {
				t.Fatalf("the dual of 2(%s,%d) is %q", e.text, m, got)
			}
		}
	}
}

// Promise 29: members of an expression and a member.
func TestPromise29(t *testing.T) {
	for _, e := range knownExprs() {
		for m := 1; m <= 6; m++ {
			want := impl.SetUnion(impl.ExprMembers(e.text), []int{m})
			if len(e.text) > 35 {
				want = nil
			}
			if got := impl.ExprMembers(fmt.Sprintf("1(%s,%d)", e.text, m)); !slices.Equal(got, want) {
				t.Fatalf("the members of 1(%s,%d) are %v", e.text, m, got)
			}
		}
	}
}

// Promise 30: what satisfies a threshold satisfies all lower ones.
func TestPromise30(t *testing.T) {
	for _, s := range validSets() {
		for k := 1; k <= len(s); k++ {
			high, _ := impl.ExprThreshold(k, s)
			for j := 1; j <= k; j++ {
				low, ok := impl.ExprThreshold(j, s)
				for _, other := range validSets() {
					if !ok || impl.ExprSatisfied(high, other) && !impl.ExprSatisfied(low, other) {
						t.Fatalf("%v satisfies %q, but not %q", other, high, low)
					}
				}
			}
		}
	}
}

func TestInvalidSetsSatisfyNothing(t *testing.T) {
	for i, e := range knownExprs() {
		if i%10 != 0 {
			continue
		}
		for _, s := range invalidSets() {
			if impl.ExprSatisfied(e.text, s) {
				t.Fatalf("%v satisfies %q", s, e.text)
			}
		}
	}
}

func TestExpressionArgumentsAreNotModified(t *testing.T) {
	for _, s := range someSets() {
		a, long := withSpare(s)
		want := slices.Clone(long)
		for k := range 8 {
			impl.ExprThreshold(k, a)
		}
		impl.ExprSatisfied("2(1(1,2),1(3,4))", a)
		impl.ExprSatisfied("malformed", a)
		if !slices.Equal(long, want) {
			t.Fatalf("%v became %v", want, long)
		}
	}
}

func TestExpressionResultsShareNoMemory(t *testing.T) {
	for _, e := range knownExprs() {
		checkFresh(t, func() []int { return impl.ExprMembers(e.text) })
	}
}

package tests

import (
	"math/rand/v2"
	"regexp"
	"strconv"
	"strings"
)

// knownExpr is an expression with all that the document says of it, put together from its operands without package impl.
type knownExpr struct {
	text      string
	dual      string
	members   int
	depth     int
	satisfied [64]bool // by the mask of the set
}

func knownMember(m int) knownExpr {
	e := knownExpr{text: strconv.Itoa(m), dual: strconv.Itoa(m), members: 1 << (m - 1)}
	for mask := range e.satisfied {
		e.satisfied[mask] = mask>>(m-1)&1 == 1
	}
	return e
}

func knownThreshold(k int, operands ...knownExpr) knownExpr {
	var e knownExpr
	var texts, duals []string
	var counts [64]int
	for _, o := range operands {
		texts = append(texts, o.text)
		duals = append(duals, o.dual)
		e.members |= o.members
		e.depth = max(e.depth, o.depth+1)
		for mask, yes := range o.satisfied {
			if yes {
				counts[mask]++
			}
		}
	}
	e.text = strconv.Itoa(k) + "(" + strings.Join(texts, ",") + ")"
	e.dual = strconv.Itoa(len(operands)-k+1) + "(" + strings.Join(duals, ",") + ")"
	for mask, count := range counts {
		e.satisfied[mask] = count >= k
	}
	return e
}

func knownMembers() []knownExpr {
	var all []knownExpr
	for m := 1; m <= 6; m++ {
		all = append(all, knownMember(m))
	}
	return all
}

// knownExprs returns members, thresholds of them, the edge cases, and nested expressions that fit into 40 bytes.
func knownExprs() []knownExpr {
	single := knownMembers()
	all := append(knownMembers(), edgeExprs()...)
	for _, a := range single {
		all = append(all, knownThreshold(1, a))
		for _, b := range single {
			all = append(all, knownThreshold(1, a, b), knownThreshold(2, a, b))
		}
	}
	for first := range single {
		for k := 1; k <= 6-first; k++ {
			all = append(all, knownThreshold(k, single[first:]...))
		}
	}
	random := rand.New(rand.NewPCG(2, 16))
	for range 600 {
		if e := randomThreshold(random, 4); len(e.text) <= 40 {
			all = append(all, e)
		}
	}
	return all
}

func randomThreshold(random *rand.Rand, depth int) knownExpr {
	operands := make([]knownExpr, 1+random.IntN(4))
	for i := range operands {
		if depth == 1 || random.IntN(2) == 0 {
			operands[i] = knownMember(1 + random.IntN(6))
		} else {
			operands[i] = randomThreshold(random, depth-1)
		}
	}
	return knownThreshold(1+random.IntN(len(operands)), operands...)
}

// nestedIn returns e as the only operand of a threshold, as often as given.
func nestedIn(e knownExpr, times int) knownExpr {
	for range times {
		e = knownThreshold(1, e)
	}
	return e
}

// edgeExprs returns expressions with a member twice, with six operands, and with exactly 40 bytes.
func edgeExprs() []knownExpr {
	single := knownMembers()
	one, two := single[0], single[1]
	pair := knownThreshold(1, one, two)
	return []knownExpr{
		knownThreshold(2, one, one), knownThreshold(2, one, one, two), knownThreshold(3, two, one, one, one),
		knownThreshold(2, pair, pair), knownThreshold(2, knownThreshold(2, one, two), one, knownThreshold(1, one)),
		knownThreshold(6, one, one, one, one, one, one), knownThreshold(3, single[5], single[4], single[3], single[2], one, two),
		knownThreshold(6, knownThreshold(1, single...), one, two, two, one, single[5]),
		longestExpr(), nestedIn(one, 13),
		knownThreshold(2, knownThreshold(4, single...), knownThreshold(3, single[:4]...), knownThreshold(1, single[3:]...), two),
	}
}

// longestExpr is broad, deep and of 40 bytes.
func longestExpr() knownExpr {
	single := knownMembers()
	deep := nestedIn(knownThreshold(2, single[:3]...), 4)
	return knownThreshold(2, knownThreshold(3, single...), deep, single[5])
}

// innermost is a threshold all of whose operands are members, or m, which stands for a threshold that was read before.
var innermost = regexp.MustCompile(`[1-6]\([1-6m](,[1-6m]){0,5}\)`)

// isExpr is the definition of an expression, from the innermost thresholds outwards.
func isExpr(text string) bool {
	if len(text) > 40 || strings.ContainsRune(text, 'm') {
		return false
	}
	for changed := true; changed; {
		before := text
		text = innermost.ReplaceAllStringFunc(text, func(threshold string) string {
			if int(threshold[0]-'0') > strings.Count(threshold, ",")+1 {
				return "?"
			}
			return "m"
		})
		changed = text != before
	}
	return len(text) == 1 && strings.Contains("123456m", text)
}

// malformedExprs returns texts that are not expressions, with those that the document rules out first.
func malformedExprs() []string {
	long := longestExpr().text
	return []string{
		"", "0", "7", "8", "9", "10", "12", "66", "-1", "+1", "01", "1.0", "m", "a", "()", "(1)", "((1))", "1()", "1(0)", "1(7)", "2(1,7)", "1(1,0)", "1(10)", "1(1,12)",
		"0(1)", "0(1,2)", "0()", "7(1)", "7(1,2,3,4,5,6)", "7(1,2,3,4,5,6,1)", "2(1)", "3(1,2)", "4(1,2,3)", "6(1,2,3,4,5)", "9(1,2,3)", "2(1(1,2))", "1(3(1,2))", "1(0(1),1)",
		"1(1,2,3,4,5,6,1)", "6(1,2,3,4,5,6,1)", "1(1(1,1,1,1,1,1,1))", "1(1,1,1,1,1,1,1,1)",
		"2(1,2", "2(1,2,3", "1(1(2)", "1(1(1,2),3", "1(", "(", ")", "1)", "1(1))", "2(1,2))", "1((1))", "1(1)(2)", "1(1)(", "1(1)()", "1(1(2)(3))", "2(1,(2))", "1(1()", "1(1,2(3,4)",
		",", "1,", ",1", "1,2", "1(,)", "1(1,)", "1(,1)", "2(1,,2)", "2(1,2,)", "2(,1,2)", "2,(1,2)", "2(1,2),", "2(1 2)", "2(12)", "2(1(1)2)", "2(1;2)", "1(1,1(,))",
		" ", " 1", "1 ", "2 (1,2)", "2( 1,2)", "2(1 ,2)", "2(1, 2)", "2(1,2 )", "2(1,2) ", " 2(1,2)", "2(1,2)\n", "\n1", "1\t", "1\r\n", "1\x00", "\x002(1,2)", "2(1,\x002)",
		"\u0661", "\uff11", "2\uff081,2\uff09", "2(1\uff0c2)", "1\u00a0", "\ufeff1", "2(1,\u0662)", "\xff", "1\xff", "2(1,2)\x80", "\xb1", "1(\xb1)", "\u2460", "1\u0301",
		"12(1,2)", "2(1,2)1", "2(1,2)2(1,2)", "1(1)1", "11(1)", "1(11)", "1(1)x", "2(1,2)#", "{1,2}", "[1]", "2[1,2]", "2{1,2}", "2<1,2>", "1|2", "k(1)", "2(a,b)",
		long + " ", long + "1", long + ")", long + "\x00", long[:39], nestedIn(knownMember(1), 14).text, overlongExpr(),
		strings.Repeat("1(", 20), strings.Repeat("(", 40), strings.Repeat("1", 40), strings.Repeat(")", 41), strings.Repeat(" ", 39) + "1",
		strings.Repeat("1(", 1<<20), strings.Repeat("1(", 1<<20) + "1" + strings.Repeat(")", 1<<20), strings.Repeat("1,", 1<<20),
	}
}

// overlongExpr has 41 bytes and breaks no other rule.
func overlongExpr() string {
	e := knownMember(3)
	for range 8 {
		e = knownThreshold(2, e, knownMember(4))
	}
	return e.text
}

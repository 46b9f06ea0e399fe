package tests

import (
	"math"
	"math/rand/v2"
	"regexp"
	"slices"
	"strconv"
	"strings"
)

// pair has the fields of a pair of a store; it need not be valid.
type pair struct {
	Key   string
	Value int
}

// order has the fields of a command of the store; it need not be valid.
type order struct {
	Op     int
	Key    string
	Value  int
	Expect int
}

// cells is a store: the values of the keys from a to f, with 0 for an absent key.
type cells [6]int

// letters returns all keys; the index of a key is its index in cells.
func letters() []string {
	return []string{"a", "b", "c", "d", "e", "f"}
}

func (c cells) size() int {
	count := 0
	for _, value := range c {
		if value > 0 {
			count++
		}
	}
	return count
}

func (c cells) pairs() []pair {
	var list []pair
	for i, value := range c {
		if value > 0 {
			list = append(list, pair{letters()[i], value})
		}
	}
	return list
}

// text is the snapshot of a store.
func (c cells) text() string {
	text := ""
	for i, value := range c {
		if value > 0 {
			text += ";" + letters()[i] + "=" + strconv.Itoa(value)
		}
	}
	return "[" + strings.TrimPrefix(text, ";") + "]"
}

// after is the definition of a command: the store that follows, and whether the command succeeds.
func (c cells) after(o order) (cells, bool) {
	i := slices.Index(letters(), o.Key)
	if i < 0 {
		return c, false
	}
	writable := 1 <= o.Value && o.Value <= 99
	present := c[i] != 0
	switch {
	case o.Op == 1 && writable:
		c[i] = o.Value
	case o.Op == 2 && present:
		c[i] = 0
	case o.Op == 3 && writable && present && c[i] == o.Expect:
		c[i] = o.Value
	default:
		return c, false
	}
	return c, true
}

// afterAll is the definition of a row of commands.
func (c cells) afterAll(row []order) (cells, []bool) {
	var results []bool
	for _, o := range row {
		next, ok := c.after(o)
		c, results = next, append(results, ok)
	}
	return c, results
}

func put(key string, value int) order {
	return order{Op: 1, Key: key, Value: value}
}

func remove(key string) order {
	return order{Op: 2, Key: key}
}

func swap(key string, expect int, value int) order {
	return order{Op: 3, Key: key, Value: value, Expect: expect}
}

// storesWith returns all stores whose values are given; 0 stands for an absent key.
func storesWith(values ...int) []cells {
	all := []cells{{}}
	for i := range 6 {
		var next []cells
		for _, c := range all {
			for _, value := range values {
				c[i] = value
				next = append(next, c)
			}
		}
		all = next
	}
	return all
}

// someStores returns one store for each set of keys, with values from 1 to 99, and those with the value of one key at a limit.
func someStores() []cells {
	all := storesWith(0, 1)
	for mask := range all {
		for i := range 6 {
			all[mask][i] *= (mask*29+i*37)%99 + 1
		}
	}
	for mask := range 64 {
		for _, limit := range []int{1, 99} {
			c := all[mask]
			if at := (mask + limit) % 6; c[at] > 0 {
				c[at] = limit
				all = append(all, c)
			}
		}
	}
	return all
}

// likelyOrders returns commands of all kinds with values next to the limits, among them swaps for the values that c has.
func likelyOrders(c cells) []order {
	var all []order
	for i, key := range letters() {
		all = append(all, remove(key), order{2, key, c[i], c[i]}, order{2, key, 42, 7}, order{2, key, -1, math.MinInt})
		for _, value := range []int{1, 2, 42, 98, 99} {
			all = append(all, put(key, value), order{1, key, value, c[i]}, order{1, key, value, c[i] + 1})
			for _, expect := range []int{c[i], c[i] - 1, c[i] + 1, value, 0, 1, 99} {
				all = append(all, swap(key, expect, value))
			}
		}
		all = append(all, put(key, max(1, c[i])), swap(key, c[i], max(1, c[i])))
	}
	return all
}

// fewOrders returns some commands that are no failures for every store: puts, deletions and swaps of all keys.
func fewOrders(c cells) []order {
	var all []order
	for i, key := range letters() {
		all = append(all, remove(key), put(key, 1), put(key, 99), swap(key, c[i], 50), swap(key, c[i]+1, 50))
	}
	return all
}

// notKeys returns texts that are not keys, some of which look like one when only some of their bytes or bits are kept.
func notKeys() []string {
	return []string{
		"", "g", "`", "z", "A", "B", "F", "G", "@", "0", "1", "3", "[", "]", "=", ";", " ", "\n", "\x00", "\x01", "\x02", "\x06", "!", "\xe1", "\xe6", "\xff", "\x80",
		"aa", "ab", "ba", "fa", "ef", "abcdef", "bcd", " a", "a ", "a\x00", "\x00a", "a\n", "a=", "a=1", "\"a\"", "[a", "a;b",
		"\u00e1", "\u0430", "\uff41", "a\u0301", "\ufeffa", "\xc3", "a\xff", strings.Repeat("a", 257), strings.Repeat("a", 1<<16+1), strings.Repeat("abcdef", 1000),
	}
}

// notOperations returns numbers that are not operations, some of which look so when only their low bits are kept.
func notOperations() []int {
	return []int{0, -1, -2, -3, 4, 5, 6, 7, 8, 9, 99, 127, 128, 255, 256, 257, 258, 259, -253, -254, -255, 1<<16 + 1, 1 << 32, 1<<32 + 1, 1<<32 + 2, 1<<32 + 3, math.MinInt, math.MinInt + 1, math.MinInt + 2, math.MinInt + 3, math.MaxInt - 1, math.MaxInt}
}

// failures returns commands that fail whatever the store is: with another operation, with what is no key, or with what is no value.
func failures() []order {
	var all []order
	for _, op := range notOperations() {
		for _, key := range letters() {
			all = append(all, order{op, key, 1, 1}, order{op, key, 42, 99}, order{op, key, 99, 0}, order{op, key, 0, 0})
		}
	}
	for _, key := range notKeys() {
		for _, op := range []int{1, 2, 3, 0, 4} {
			all = append(all, order{op, key, 1, 1}, order{op, key, 42, 0}, order{op, key, 0, 0})
		}
	}
	for i, value := range oddValues() {
		for _, key := range letters() {
			all = append(all, put(key, value), order{1, key, value, value}, order{1, key, value, 42})
			for _, expect := range []int{value, 0, 1, 42, 99, oddValues()[(i+1)%len(oddValues())]} {
				all = append(all, swap(key, expect, value))
			}
		}
	}
	return all
}

// swapsThatFail returns swaps with another expected value than the one of c, among them expected values that are no values at all.
func swapsThatFail(c cells) []order {
	var all []order
	for i, key := range letters() {
		expects := append(oddValues(), 1, 2, 42, 98, 99, c[i]-1, c[i]+1, -c[i], c[i]+256, c[i]+1<<32, 99-c[i])
		for k, expect := range expects {
			if expect != c[i] || c[i] == 0 {
				all = append(all, swap(key, expect, (k*17+i)%99+1))
			}
		}
		if c[i] == 0 {
			all = append(all, swap(key, 0, 1), swap(key, 0, 99))
		}
	}
	return all
}

// rows returns rows of commands of many lengths, with and without failures in them.
func rows() [][]order {
	random := rand.New(rand.NewPCG(12, 32))
	fail := failures()
	all := [][]order{nil, {}}
	for i := range 400 {
		row := make([]order, i%20)
		var c cells
		for k := range row {
			key := random.IntN(3 + 3*(i%2))
			switch random.IntN(6) {
			case 0, 1:
				row[k] = put(letters()[key], 1+random.IntN(99))
			case 2:
				row[k] = remove(letters()[key])
			case 3:
				row[k] = swap(letters()[key], c[key], 1+random.IntN(99))
			case 4:
				row[k] = swap(letters()[key], random.IntN(100), 1+random.IntN(99))
			case 5:
				row[k] = fail[random.IntN(len(fail))]
			}
			// So that the swaps that follow expect what is there.
			c, _ = c.after(row[k])
		}
		all = append(all, row)
	}
	return all
}

// isStore is the definition of a store, pair by pair.
func isStore(s []pair) bool {
	for i, p := range s {
		if !slices.Contains(letters(), p.Key) || p.Value < 1 || p.Value > 99 {
			return false
		}
		for _, q := range s[:i] {
			if q.Key >= p.Key {
				return false
			}
		}
	}
	return true
}

// shortLists returns all lists of at most three pairs of some keys and values, valid and not.
func shortLists() [][]pair {
	all := [][]pair{nil, {}}
	level := [][]pair{nil}
	for range 3 {
		var next [][]pair
		for _, s := range level {
			for _, key := range []string{"", "`", "a", "ab", "b", "f", "g"} {
				for _, value := range []int{0, 1, 99, 100} {
					next = append(next, append(slices.Clone(s), pair{key, value}))
				}
			}
		}
		all = append(all, next...)
		level = next
	}
	return all
}

// notStores returns lists of pairs that are no stores, with those that the document names first.
func notStores() [][]pair {
	full := cells{6, 5, 4, 3, 2, 1}.pairs()
	all := [][]pair{
		{{"b", 1}, {"a", 2}}, {{"a", 1}, {"a", 1}}, {{"a", 1}, {"a", 2}}, {{"g", 1}}, {{"a", 0}}, {{"a", 100}}, {{}}, {{"", 1}}, {{"a", -1}}, {{"a", 0}, {"b", 1}},
		append(slices.Clone(full), pair{"g", 1}), append(slices.Clone(full), pair{"f", 1}), append(slices.Clone(full), pair{"a", 6}), append([]pair{{"`", 1}}, full...), append([]pair{{}}, full...),
		slices.Repeat([]pair{{"a", 1}}, 1000), slices.Repeat(full, 2), slices.Repeat(full, 300),
	}
	all = append(all, disordered(full)...)
	all = append(all, disordered(cells{0, 7, 0, 8, 9}.pairs())...)
	for _, c := range []cells{{42}, {0, 0, 42}, {0, 0, 0, 0, 0, 42}, {3, 15}, {0, 1, 0, 99}, {1, 2, 3, 4, 5, 6}} {
		s := c.pairs()
		for i := range s {
			for _, key := range notKeys() {
				all = append(all, replacedPair(s, i, pair{key, 42}))
			}
			for _, value := range oddValues() {
				all = append(all, replacedPair(s, i, pair{s[i].Key, value}))
			}
		}
	}
	return all
}

// disordered returns s with two of its pairs exchanged, with one of them twice, and in the opposite order.
func disordered(s []pair) [][]pair {
	opposite := slices.Clone(s)
	slices.Reverse(opposite)
	all := [][]pair{opposite}
	for i := range s {
		for k := range s {
			if k < i {
				exchanged := slices.Clone(s)
				exchanged[i], exchanged[k] = s[k], s[i]
				all = append(all, exchanged)
			}
			all = append(all, slices.Insert(slices.Clone(s), k, s[i]), append(slices.Clone(s[:k+1]), s[i]))
			if k != i {
				all = append(all, replacedPair(s, k, s[i]))
			}
		}
	}
	return slices.DeleteFunc(all, isStore)
}

func replacedPair(s []pair, i int, p pair) []pair {
	s = slices.Clone(s)
	s[i] = p
	return s
}

// snapshotForm is the form of a snapshot; that the keys ascend is not part of it.
var snapshotForm = regexp.MustCompile(`\A\[([a-f]=[1-9][0-9]?(;[a-f]=[1-9][0-9]?)*)?\]\z`)

// isSnapshot is the definition of a snapshot.
func isSnapshot(text string) bool {
	if !snapshotForm.MatchString(text) {
		return false
	}
	last := rune(0)
	for _, letter := range text {
		if 'a' <= letter && letter <= 'f' {
			if letter <= last {
				return false
			}
			last = letter
		}
	}
	return true
}

// notSnapshots returns texts that are no snapshots, with those that the document names first.
func notSnapshots() []string {
	all := []string{
		"", "[b=1;a=2]", "[a=1;a=1]", "[a=1;a=2]", "[", "]", "][", "[[]]", "[][]", "{}", "()", "[]]", "[[]", "[;]", "[=]", "[ ]", "[;a=1]", "[a=1;]", "[a=1;;b=2]", "[;;]",
		"[a=0]", "[a=00]", "[a=01]", "[a=001]", "[a=-0]", "[a=+1]", "[a=-1]", "[a=--1]", "[a=100]", "[a=099]", "[a=1.0]", "[a=1e1]", "[a=0x1]", "[a=0b1]", "[a=1_0]", "[a=_1]", "[a='1']",
		"[a]", "[a=]", "[=1]", "[1]", "[1=a]", "[a1]", "[a=1=]", "[a=1=1]", "[a==1]", "[a:1]", "[a=a]", "[a=b;b=1]", "[a=1,b=2]", "[a=1 b=2]", "[a=1b=2]", "[a=1;b]", "[a;b=1]", "[a=1;2]",
		" [a=1]", "[a=1] ", "[ a=1]", "[a=1 ]", "[a =1]", "[a= 1]", "[a=1; b=2]", "[a=1 ;b=2]", "[a=1]\n", "\n[a=1]", "[a=1\n]", "[a=1]\x00", "\x00[a=1]", "[a=1\x00]", "[a\x00=1]", "[\ta=1]",
		"a=1", "[a=1", "a=1]", "{a=1}", "(a=1)", "[a=1)", "[[a=1]]", "[a=1]]", "[[a=1]", "[a=1][b=2]", "[a=1]b=2]", "[]a=1]", "[a=1[]", "[a=1;[b=2]]", "null", "\"[]\"", "map[a:1]", "[a=1;...]",
		"[A=1]", "[g=1]", "[`=1]", "[aa=1]", "[ab=1]", "[a=1;g=2]", "[\xe1=1]", "[\uff41=1]", "[a=\uff11]", "[a=\u0661]", "[a\uff1d1]", "[a=1\uff1bb=2]", "\ufeff[a=1]", "\xff\xfe", "[a=\xb1]", "[\xff=1]",
		"[a=1;b=2;c=3;d=4;e=5;f=6;g=7]", "[a=1;b=2;c=3;d=4;e=5;f=6;f=6]", "[a=1;b=2;c=3;d=4;e=5;f=6;a=1]", "[f=1;e=2;d=3;c=4;b=5;a=6]", "[a=1;b=2;d=4;c=3]",
		// Numbers that would be 1 if they wrapped around.
		"[a=257]", "[a=65537]", "[a=4294967297]", "[a=18446744073709551617]", "[a=-18446744073709551615]", "[a=9223372036854775807]", "[a=9223372036854775808]", "[a=-9223372036854775808]", "[a=340282366920938463463374607431768211457]",
		strings.Repeat("[", 1000), "[" + strings.Repeat(";", 1000) + "]", "[" + strings.Repeat("a=1;", 1000) + "b=2]", "[a=" + strings.Repeat("0", 1000) + "1]", "[a=" + strings.Repeat("1", 1000) + "]", "[" + strings.Repeat("a", 1000) + "=1]",
	}
	for _, value := range oddValues() {
		all = append(all, "[a="+strconv.Itoa(value)+"]", "[a=1;c="+strconv.Itoa(value)+";f=3]")
	}
	for _, key := range notKeys() {
		all = append(all, "["+key+"=1]", "[a=1;"+key+"=2]")
	}
	return all
}

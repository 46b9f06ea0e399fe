package tests

import (
	"math"
	"slices"
	"testing"

	"loop.example/flexquorum/impl"
)

// implStore returns the pairs in new memory; it is nil only for nil.
func implStore(s []pair) []impl.Pair {
	if s == nil {
		return nil
	}
	list := make([]impl.Pair, len(s))
	for i, p := range s {
		list[i] = impl.Pair(p)
	}
	return list
}

func plainStore(s []impl.Pair) []pair {
	var list []pair
	for _, p := range s {
		list = append(list, pair(p))
	}
	return list
}

// implRow returns the commands in new memory; it is nil only for nil.
func implRow(row []order) []impl.Command {
	if row == nil {
		return nil
	}
	list := make([]impl.Command, len(row))
	for i, o := range row {
		list[i] = impl.Command(o)
	}
	return list
}

// apply returns the store that follows c by StoreApply, and the result of the command. It fails the test if that is no store.
func apply(t *testing.T, c cells, o order) (cells, bool) {
	t.Helper()
	got, ok := impl.StoreApply(implStore(c.pairs()), impl.Command(o))
	return cellsOf(t, got), ok
}

// cellsOf returns the cells of a store. It fails the test if s is no store.
func cellsOf(t *testing.T, s []impl.Pair) cells {
	t.Helper()
	if !isStore(plainStore(s)) {
		t.Fatalf("%v is no store", s)
	}
	var c cells
	for _, p := range s {
		c[slices.Index(letters(), p.Key)] = p.Value
	}
	return c
}

func checkApply(t *testing.T, c cells, o order, want cells, wantOk bool) {
	t.Helper()
	if got, ok := impl.StoreApply(implStore(c.pairs()), impl.Command(o)); ok != wantOk || !slices.Equal(plainStore(got), want.pairs()) {
		t.Fatalf("StoreApply(%v, %v) is %v, %v, not %v, %v", c.pairs(), o, got, ok, want.pairs(), wantOk)
	}
}

func checkApplyAll(t *testing.T, c cells, row []order, want cells, wantResults []bool) {
	t.Helper()
	got, results := impl.StoreApplyAll(implStore(c.pairs()), implRow(row))
	if !slices.Equal(plainStore(got), want.pairs()) || !slices.Equal(results, wantResults) {
		t.Fatalf("StoreApplyAll(%v, %v) is %v, %v, not %v, %v", c.pairs(), row, got, results, want.pairs(), wantResults)
	}
}

func checkGet(t *testing.T, c cells, key string, want int, wantOk bool) {
	t.Helper()
	if got, ok := impl.StoreGet(implStore(c.pairs()), key); got != want || ok != wantOk {
		t.Fatalf("StoreGet(%v, %q) is %d, %v", c.pairs(), key, got, ok)
	}
}

func checkStoreValid(t *testing.T, s []pair, want bool) {
	t.Helper()
	if got := impl.StoreValid(implStore(s)); got != want {
		t.Fatalf("StoreValid(%v) is %v", s, got)
	}
}

func checkEncode(t *testing.T, c cells, want string) {
	t.Helper()
	if got := impl.StoreEncode(implStore(c.pairs())); got != want {
		t.Fatalf("StoreEncode(%v) is %q, not %q", c.pairs(), got, want)
	}
}

func checkDecode(t *testing.T, text string, want []pair, wantOk bool) {
	t.Helper()
	if got, ok := impl.StoreDecode(text); ok != wantOk || !slices.Equal(plainStore(got), want) {
		t.Fatalf("StoreDecode(%q) is %v, %v, not %v, %v", text, got, ok, want, wantOk)
	}
}

// forEachOrder calls check with stores and commands that are likely to succeed, and with some that fail.
func forEachOrder(check func(c cells, o order)) {
	fail := failures()
	for i, c := range storesWith(0, 1, 42, 99) {
		orders := likelyOrders(c)
		for k := i % 11; k < len(orders); k += 11 {
			check(c, orders[k])
		}
		check(c, fail[i%len(fail)])
	}
	for i, c := range someStores() {
		for _, o := range append(likelyOrders(c), swapsThatFail(c)...) {
			check(c, o)
		}
		for k := i % 5; k < len(fail); k += 5 {
			check(c, fail[k])
		}
	}
}

// forEachRow calls check with stores and rows of commands.
func forEachRow(check func(c cells, row []order)) {
	stores := append(someStores(), cells{}, cells{1, 1, 1, 1, 1, 1}, cells{99, 99, 99, 99, 99, 99})
	for i, row := range rows() {
		check(cells{}, row)
		for k := i % 8; k < len(stores); k += 8 {
			check(stores[k], row)
		}
	}
}

func TestConstantsOfCommands(t *testing.T) {
	if impl.OpPut != 1 || impl.OpDelete != 2 || impl.OpSwap != 3 {
		t.Errorf("OpPut is %d, OpDelete is %d and OpSwap is %d", impl.OpPut, impl.OpDelete, impl.OpSwap)
	}
}

// The other tests rely on the stores and commands being varied.
func TestCommandsCoverTheEdges(t *testing.T) {
	var seen [24]int
	count := func(index int, is bool) {
		if is {
			seen[index]++
		}
	}
	forEachOrder(func(c cells, o order) {
		_, ok := c.after(o)
		i := slices.Index(letters(), o.Key)
		isKey, present := i >= 0, i >= 0 && c[i] > 0
		lower, higher := 0, 0
		for k, value := range c {
			if value > 0 && k < i {
				lower++
			}
			if value > 0 && k > i {
				higher++
			}
		}
		count(0, c.size() == 0 && ok)
		count(1, c.size() == 6 && ok)
		count(2, o.Op == 1 && ok && !present && lower == 0 && higher > 0)
		count(3, o.Op == 1 && ok && !present && lower > 0 && higher > 0)
		count(4, o.Op == 1 && ok && !present && lower > 0 && higher == 0)
		count(5, o.Op == 1 && ok && present && o.Value != c[i])
		count(6, o.Op == 1 && ok && present && o.Value == c[i])
		count(7, o.Op == 2 && ok && lower == 0 && higher > 0)
		count(8, o.Op == 2 && ok && lower > 0 && higher == 0)
		count(9, o.Op == 2 && ok && lower > 0 && higher > 0)
		count(10, o.Op == 2 && ok && c.size() == 1)
		count(11, o.Op == 2 && isKey && !present)
		count(12, o.Op == 3 && ok && o.Value != o.Expect)
		count(13, o.Op == 3 && ok && o.Value == o.Expect)
		count(14, o.Op == 3 && present && o.Expect != c[i] && o.Expect > 0)
		count(15, o.Op == 3 && isKey && !present && o.Expect == 0 && o.Value == 1)
		count(16, o.Op == 3 && present && o.Expect == c[i] && !ok)
		count(17, o.Op != 2 && ok && o.Value == 1)
		count(18, o.Op != 2 && ok && o.Value == 99)
		count(19, o.Op == 1 && isKey && !ok && o.Value == 100)
		count(20, o.Op == 1 && isKey && !ok && o.Value == 0)
		count(21, o.Op > 3 && isKey || o.Op < 1 && isKey)
		count(22, !isKey && o.Op == 1 && o.Value == 1)
		count(23, o.Expect == math.MinInt && o.Op == 2 && ok)
	})
	if slices.Contains(seen[:], 0) {
		t.Errorf("numbers of commands: %v", seen)
	}
}

func TestRowsCoverTheEdges(t *testing.T) {
	var seen [8]int
	count := func(index int, is bool) {
		if is {
			seen[index]++
		}
	}
	forEachRow(func(c cells, row []order) {
		end, results := c.afterAll(row)
		count(0, row == nil)
		count(1, row != nil && len(row) == 0 && c.size() > 0)
		count(2, len(row) == 19)
		count(3, len(row) == 1 && !results[0])
		count(4, len(row) > 3 && !slices.Contains(results, true))
		count(5, len(row) > 3 && !slices.Contains(results, false))
		count(6, end.size() == 6)
		for k, o := range row {
			count(7, k > 0 && k+1 < len(row) && o.Op == 3 && results[k-1] && !results[k] && results[k+1])
		}
	})
	if slices.Contains(seen[:], 0) {
		t.Errorf("numbers of rows: %v", seen)
	}
}

func TestSomeStores(t *testing.T) {
	tests := []struct {
		pairs []pair
		text  string
	}{
		{nil, "[]"},
		{[]pair{}, "[]"},
		{[]pair{{"a", 3}, {"b", 15}}, "[a=3;b=15]"},
		{[]pair{{"a", 1}}, "[a=1]"},
		{[]pair{{"f", 99}}, "[f=99]"},
		{[]pair{{"c", 10}, {"e", 9}}, "[c=10;e=9]"},
		{[]pair{{"a", 1}, {"f", 1}}, "[a=1;f=1]"},
		{[]pair{{"a", 99}, {"b", 98}, {"c", 90}, {"d", 20}, {"e", 11}, {"f", 10}}, "[a=99;b=98;c=90;d=20;e=11;f=10]"},
		{[]pair{{"a", 1}, {"b", 2}, {"c", 3}, {"d", 4}, {"e", 5}, {"f", 6}}, "[a=1;b=2;c=3;d=4;e=5;f=6]"},
	}
	for _, test := range tests {
		checkStoreValid(t, test.pairs, true)
		if got := impl.StoreEncode(implStore(test.pairs)); got != test.text {
			t.Errorf("StoreEncode(%v) is %q, not %q", test.pairs, got, test.text)
		}
		checkDecode(t, test.text, test.pairs, true)
		for _, p := range test.pairs {
			if got, ok := impl.StoreGet(implStore(test.pairs), p.Key); got != p.Value || !ok {
				t.Errorf("StoreGet(%v, %q) is %d, %v", test.pairs, p.Key, got, ok)
			}
		}
	}
}

func TestSomeCommands(t *testing.T) {
	tests := []struct {
		store []pair
		order order
		want  []pair
		ok    bool
	}{
		// A new key in the empty store, ahead of, between and behind the others.
		{nil, put("c", 7), []pair{{"c", 7}}, true},
		{[]pair{{"b", 1}, {"d", 2}}, put("a", 7), []pair{{"a", 7}, {"b", 1}, {"d", 2}}, true},
		{[]pair{{"b", 1}, {"d", 2}}, put("c", 7), []pair{{"b", 1}, {"c", 7}, {"d", 2}}, true},
		{[]pair{{"b", 1}, {"d", 2}}, put("e", 7), []pair{{"b", 1}, {"d", 2}, {"e", 7}}, true},
		// A key that is there, also with its own value.
		{[]pair{{"b", 1}, {"d", 2}}, put("b", 99), []pair{{"b", 99}, {"d", 2}}, true},
		{[]pair{{"b", 1}, {"d", 2}}, put("d", 1), []pair{{"b", 1}, {"d", 1}}, true},
		{[]pair{{"b", 1}, {"d", 2}}, put("d", 2), []pair{{"b", 1}, {"d", 2}}, true},
		{[]pair{{"b", 1}}, put("b", 0), []pair{{"b", 1}}, false},
		{[]pair{{"b", 1}}, put("c", 100), []pair{{"b", 1}}, false},
		{nil, put("c", -1), nil, false},
		// A put does not look at Expect.
		{[]pair{{"b", 1}}, order{1, "b", 5, 4}, []pair{{"b", 5}}, true},
		// The first, the last and the only key, one between, and an absent one.
		{[]pair{{"a", 1}, {"c", 2}, {"f", 3}}, remove("a"), []pair{{"c", 2}, {"f", 3}}, true},
		{[]pair{{"a", 1}, {"c", 2}, {"f", 3}}, remove("c"), []pair{{"a", 1}, {"f", 3}}, true},
		{[]pair{{"a", 1}, {"c", 2}, {"f", 3}}, remove("f"), []pair{{"a", 1}, {"c", 2}}, true},
		{[]pair{{"a", 1}}, remove("a"), nil, true},
		{[]pair{{"a", 1}, {"c", 2}}, remove("b"), []pair{{"a", 1}, {"c", 2}}, false},
		{nil, remove("b"), nil, false},
		// A deletion looks neither at Value nor at Expect.
		{[]pair{{"a", 1}}, order{2, "a", 100, -5}, nil, true},
		// The expected value, another one, an absent key, and what is no value.
		{[]pair{{"a", 1}, {"b", 15}}, swap("b", 15, 3), []pair{{"a", 1}, {"b", 3}}, true},
		{[]pair{{"a", 1}, {"b", 15}}, swap("b", 15, 15), []pair{{"a", 1}, {"b", 15}}, true},
		{[]pair{{"a", 1}, {"b", 15}}, swap("b", 1, 3), []pair{{"a", 1}, {"b", 15}}, false},
		{[]pair{{"a", 1}, {"b", 15}}, swap("b", 3, 15), []pair{{"a", 1}, {"b", 15}}, false},
		{[]pair{{"a", 1}, {"b", 15}}, swap("c", 0, 3), []pair{{"a", 1}, {"b", 15}}, false},
		{[]pair{{"a", 1}, {"b", 15}}, swap("c", 15, 3), []pair{{"a", 1}, {"b", 15}}, false},
		{[]pair{{"a", 1}, {"b", 15}}, swap("b", 15, 0), []pair{{"a", 1}, {"b", 15}}, false},
		{[]pair{{"a", 1}, {"b", 15}}, swap("b", 15, 100), []pair{{"a", 1}, {"b", 15}}, false},
		{nil, swap("a", 0, 1), nil, false},
		// What is no key, and what is no operation.
		{[]pair{{"a", 1}}, put("g", 1), []pair{{"a", 1}}, false},
		{[]pair{{"a", 1}}, remove(""), []pair{{"a", 1}}, false},
		{[]pair{{"a", 1}}, swap("A", 1, 2), []pair{{"a", 1}}, false},
		{[]pair{{"a", 1}}, order{}, []pair{{"a", 1}}, false},
		{[]pair{{"a", 1}}, order{4, "a", 2, 1}, []pair{{"a", 1}}, false},
		{[]pair{{"a", 1}}, order{-1, "a", 2, 1}, []pair{{"a", 1}}, false},
		// Six keys.
		{[]pair{{"a", 1}, {"b", 2}, {"c", 3}, {"d", 4}, {"e", 5}, {"f", 6}}, put("d", 40), []pair{{"a", 1}, {"b", 2}, {"c", 3}, {"d", 40}, {"e", 5}, {"f", 6}}, true},
		{[]pair{{"a", 1}, {"b", 2}, {"c", 3}, {"d", 4}, {"e", 5}, {"f", 6}}, put("g", 7), []pair{{"a", 1}, {"b", 2}, {"c", 3}, {"d", 4}, {"e", 5}, {"f", 6}}, false},
		{[]pair{{"a", 1}, {"b", 2}, {"c", 3}, {"d", 4}, {"e", 5}}, put("f", 6), []pair{{"a", 1}, {"b", 2}, {"c", 3}, {"d", 4}, {"e", 5}, {"f", 6}}, true},
	}
	for _, test := range tests {
		got, ok := impl.StoreApply(implStore(test.store), impl.Command(test.order))
		if ok != test.ok || !slices.Equal(plainStore(got), test.want) {
			t.Errorf("StoreApply(%v, %v) is %v, %v, not %v, %v", test.store, test.order, got, ok, test.want, test.ok)
		}
		all, results := impl.StoreApplyAll(implStore(test.store), []impl.Command{impl.Command(test.order)})
		if !slices.Equal(results, []bool{test.ok}) || !slices.Equal(plainStore(all), test.want) {
			t.Errorf("StoreApplyAll(%v, [%v]) is %v, %v, not %v, %v", test.store, test.order, all, results, test.want, test.ok)
		}
	}
}

func TestSomeRows(t *testing.T) {
	tests := []struct {
		row     []order
		results []bool
		text    string
	}{
		{nil, nil, "[c=3]"},
		{[]order{}, nil, "[c=3]"},
		{[]order{put("b", 15), put("a", 2), swap("a", 2, 3), remove("c"), remove("c")}, []bool{true, true, true, true, false}, "[a=3;b=15]"},
		// What fails changes nothing for what follows.
		{[]order{swap("c", 4, 5), swap("c", 3, 4), swap("c", 3, 5), swap("c", 4, 6)}, []bool{false, true, false, true}, "[c=6]"},
		{[]order{put("d", 100), swap("d", 100, 1), swap("d", 0, 1), remove("d")}, []bool{false, false, false, false}, "[c=3]"},
		{[]order{remove("c"), swap("c", 3, 4), remove("c"), put("c", 9), remove("c")}, []bool{true, false, false, true, true}, "[]"},
		{[]order{{}, put("g", 1), {4, "c", 1, 3}, put("f", 99)}, []bool{false, false, false, true}, "[c=3;f=99]"},
		{[]order{put("a", 1), put("a", 2), put("a", 3), put("a", 2)}, []bool{true, true, true, true}, "[a=2;c=3]"},
	}
	for _, test := range tests {
		got, results := impl.StoreApplyAll([]impl.Pair{{Key: "c", Value: 3}}, implRow(test.row))
		if text := cellsOf(t, got).text(); text != test.text || !slices.Equal(results, test.results) {
			t.Errorf("%v leads from [c=3] to %s with %v, not to %s with %v", test.row, text, results, test.text, test.results)
		}
	}
}

func TestAllThatIsKnownOfCommands(t *testing.T) {
	forEachOrder(func(c cells, o order) {
		want, ok := c.after(o)
		checkApply(t, c, o, want, ok)
	})
}

// Promise 131: a put or a swap that succeeds sets its key and nothing else.
func TestPromise131(t *testing.T) {
	forEachOrder(func(c cells, o order) {
		got, ok := impl.StoreApply(implStore(c.pairs()), impl.Command(o))
		if o.Op == impl.OpDelete || !ok {
			return
		}
		for i, key := range letters() {
			want := c[i]
			if key == o.Key {
				want = o.Value
			}
			if value, present := impl.StoreGet(got, key); value != want || present != (want > 0) {
				t.Fatalf("StoreApply(%v, %v) is %v", c.pairs(), o, got)
			}
		}
	})
	for v := 1; v <= 99; v++ {
		checkApply(t, cells{5, 6}, put("a", v), cells{v, 6}, true)
		checkApply(t, cells{}, put("f", v), cells{0, 0, 0, 0, 0, v}, true)
		checkApply(t, cells{5, 100 - v}, swap("b", 100-v, v), cells{5, v}, true)
	}
}

// Promise 132: a deletion succeeds if the key is present, and removes it and nothing else.
func TestPromise132(t *testing.T) {
	for _, c := range append(storesWith(0, 1, 42, 99), someStores()...) {
		for i, key := range letters() {
			want := c
			want[i] = 0
			for _, o := range []order{remove(key), {2, key, 1, c[i]}, {2, key, 100, c[i] + 1}, {2, key, math.MaxInt, math.MinInt}} {
				checkApply(t, c, o, want, c[i] > 0)
			}
			checkGet(t, want, key, 0, false)
			checkApply(t, want, remove(key), want, false)
		}
	}
}

// Promise 133: a swap succeeds if the key has the expected value and the new one is a value.
func TestPromise133(t *testing.T) {
	for _, c := range []cells{{42}, {1, 0, 99}, {0, 50, 51, 0, 7}, {0, 0, 0, 0, 0, 100 - 1}, {1, 2, 3, 4, 5, 6}} {
		for i, key := range letters() {
			for expect := -2; expect <= 102; expect++ {
				for value := -2; value <= 102; value++ {
					want := c
					ok := c[i] > 0 && c[i] == expect && 1 <= value && value <= 99
					if ok {
						want[i] = value
					}
					checkApply(t, c, swap(key, expect, value), want, ok)
				}
			}
		}
	}
	for _, c := range someStores() {
		for _, o := range swapsThatFail(c) {
			checkApply(t, c, o, c, false)
		}
	}
}

// Promise 134: what fails changes nothing.
func TestPromise134(t *testing.T) {
	forEachOrder(func(c cells, o order) {
		if got, ok := apply(t, c, o); !ok && got != c {
			t.Fatalf("StoreApply(%v, %v) is %v, false", c.pairs(), o, got.pairs())
		}
	})
	for _, c := range someStores() {
		for _, o := range failures() {
			checkApply(t, c, o, c, false)
		}
	}
}

// Promise 135: a command and a put to another key commute.
func TestPromise135(t *testing.T) {
	fail := failures()
	for k, c := range someStores() {
		orders := append(fewOrders(c), fail[k%len(fail)], order{}, put("g", 1))
		for i, o := range orders {
			for n, key := range letters() {
				if key == o.Key {
					continue
				}
				for _, p := range []order{put(key, (i*31+n)%99+1), put(key, 100)} {
					first, done := apply(t, c, o)
					first, wrote := apply(t, first, p)
					second, wroteFirst := apply(t, c, p)
					second, doneSecond := apply(t, second, o)
					if first != second || done != doneSecond || wrote != wroteFirst {
						t.Fatalf("%v: %v and %v lead to %v, and in the other order to %v", c.pairs(), o, p, first.pairs(), second.pairs())
					}
				}
			}
		}
	}
}

// Promise 136: nothing is left of a command behind a put to the same key.
func TestPromise136(t *testing.T) {
	forEachOrder(func(c cells, o order) {
		for _, value := range []int{1, 99, max(1, min(o.Value, 99))} {
			p := put(o.Key, value)
			want, ok := apply(t, c, p)
			middle, _ := apply(t, c, o)
			checkApply(t, middle, p, want, ok)
			if c.size() > 1 {
				break
			}
		}
	})
}

// Promise 137: a row of commands is applied one by one, and each result is reported.
func TestPromise137(t *testing.T) {
	forEachRow(func(c cells, row []order) {
		want := implStore(c.pairs())
		var wantResults []bool
		for _, o := range row {
			next, ok := impl.StoreApply(want, impl.Command(o))
			want, wantResults = next, append(wantResults, ok)
		}
		checkApplyAll(t, c, row, cellsOf(t, want), wantResults)
		// And that is what the definition says.
		end, results := c.afterAll(row)
		checkApplyAll(t, c, row, end, results)
	})
}

// Promise 138: a row can be applied in two parts.
func TestPromise138(t *testing.T) {
	forEachRow(func(c cells, row []order) {
		whole, results := impl.StoreApplyAll(implStore(c.pairs()), implRow(row))
		for _, length := range partLengths(row) {
			first, firstResults := impl.StoreApplyAll(implStore(c.pairs()), implRow(row[:length]))
			second, secondResults := impl.StoreApplyAll(first, implRow(row[length:]))
			if !slices.Equal(second, whole) || !slices.Equal(append(firstResults, secondResults...), results) {
				t.Fatalf("%v: %v leads to %v, and split at %d to %v", c.pairs(), row, whole, length, second)
			}
		}
	})
}

// partLengths returns lengths of prefixes of a row: the least and the largest, and some between.
func partLengths(row []order) []int {
	lengths := []int{0, len(row)}
	for length := 1; length < len(row); length += 3 {
		lengths = append(lengths, length)
	}
	return lengths
}

// Promise 139: a store comes back from its snapshot.
func TestPromise139(t *testing.T) {
	for _, c := range append(storesWith(0, 1, 9, 10, 99), someStores()...) {
		text := impl.StoreEncode(implStore(c.pairs()))
		if want := c.text(); text != want {
			t.Fatalf("StoreEncode(%v) is %q, not %q", c.pairs(), text, want)
		}
		checkDecode(t, text, c.pairs(), true)
	}
	for v := 1; v <= 99; v++ {
		for i := range 6 {
			var c cells
			c[i] = v
			checkEncode(t, c, c.text())
			checkDecode(t, c.text(), c.pairs(), true)
			c[(i+1)%6] = 100 - v
			checkEncode(t, c, c.text())
			checkDecode(t, c.text(), c.pairs(), true)
		}
	}
}

// Promise 140: only a snapshot can be decoded, to a store with that snapshot.
func TestPromise140(t *testing.T) {
	decoded := 0
	check := func(text string) {
		s, ok := impl.StoreDecode(text)
		if ok != isSnapshot(text) || !ok && len(s) != 0 {
			t.Fatalf("StoreDecode(%q) is %v, %v", text, s, ok)
		}
		if !ok {
			return
		}
		decoded++
		if !impl.StoreValid(s) || impl.StoreEncode(s) != text {
			t.Fatalf("StoreDecode(%q) is %v with the snapshot %q", text, s, impl.StoreEncode(s))
		}
	}
	for _, text := range textsUpTo(6, "[]=;ab019") {
		check(text)
	}
	for _, text := range notSnapshots() {
		check(text)
	}
	for _, c := range []cells{{}, {1}, {0, 99}, {3, 15}, {0, 0, 10, 0, 9}, {1, 20, 3, 40, 5, 60}} {
		for _, text := range changedTexts(c.text(), "[]=;,abcfgA0195+- \x00\n\xff") {
			check(text)
		}
	}
	if decoded < 100 {
		t.Errorf("only %d texts were snapshots", decoded)
	}
}

// Promise 141: a snapshot of what a prefix leads to stands for the prefix.
func TestPromise141(t *testing.T) {
	forEachRow(func(c cells, row []order) {
		whole, results := impl.StoreApplyAll(implStore(c.pairs()), implRow(row))
		for _, length := range partLengths(row) {
			first, _ := impl.StoreApplyAll(implStore(c.pairs()), implRow(row[:length]))
			restored, ok := impl.StoreDecode(impl.StoreEncode(first))
			second, rest := impl.StoreApplyAll(restored, implRow(row[length:]))
			if !ok || !slices.Equal(second, whole) || !slices.Equal(rest, results[length:]) {
				t.Fatalf("%v: %v leads to %v, and with a snapshot at %d to %v", c.pairs(), row, whole, length, second)
			}
		}
	})
}

// Promise 142: the value of a key is that of its pair, if there is one.
func TestPromise142(t *testing.T) {
	for _, c := range append(storesWith(0, 1, 42, 99), someStores()...) {
		for i, key := range letters() {
			checkGet(t, c, key, c[i], c[i] > 0)
		}
	}
	for _, c := range someStores() {
		for _, key := range notKeys() {
			checkGet(t, c, key, 0, false)
		}
	}
}

// Promise 143: any pair can be taken away, and none can be there twice.
func TestPromise143(t *testing.T) {
	for _, c := range append(storesWith(0, 1, 42, 99), someStores()...) {
		s := c.pairs()
		checkStoreValid(t, s, true)
		for i, p := range s {
			checkStoreValid(t, slices.Delete(slices.Clone(s), i, i+1), true)
			for k := range len(s) + 1 {
				checkStoreValid(t, slices.Insert(slices.Clone(s), k, p), false)
				checkStoreValid(t, slices.Insert(slices.Clone(s), k, pair{p.Key, 100 - p.Value}), false)
			}
		}
	}
}

// Promise 144: without all keys a store is empty, and its pairs bring it back, in whatever order.
func TestPromise144(t *testing.T) {
	for mask, c := range someStores() {
		var deletions, present, puts []order
		for i := range 6 {
			at := (i*5 + mask) % 6
			deletions = append(deletions, remove(letters()[at]))
			if c[at] > 0 {
				present = append(present, remove(letters()[at]))
				puts = append(puts, put(letters()[at], c[at]))
			}
		}
		_, results := c.afterAll(deletions)
		checkApplyAll(t, c, deletions, cells{}, results)
		checkApplyAll(t, c, present, cells{}, slices.Repeat([]bool{true}, len(present)))
		checkApplyAll(t, cells{}, puts, c, slices.Repeat([]bool{true}, len(puts)))
		slices.Reverse(puts)
		empty, _ := impl.StoreApplyAll(implStore(c.pairs()), implRow(deletions))
		restored, _ := impl.StoreApplyAll(empty, implRow(puts))
		if len(empty) != 0 || cellsOf(t, restored) != c {
			t.Fatalf("%v becomes %v and then %v", c.pairs(), empty, restored)
		}
	}
}

// Promise 145: a swap to another value can't be repeated, but can be taken back.
func TestPromise145(t *testing.T) {
	for _, c := range append(storesWith(0, 1, 42, 99), someStores()...) {
		for i, key := range letters() {
			if c[i] == 0 {
				continue
			}
			for _, value := range []int{1, 2, 42, 98, 99, c[i]%99 + 1} {
				if value == c[i] {
					continue
				}
				swapped := c
				swapped[i] = value
				checkApply(t, c, swap(key, c[i], value), swapped, true)
				checkApply(t, swapped, swap(key, c[i], value), swapped, false)
				checkApply(t, swapped, swap(key, value, c[i]), c, true)
			}
		}
	}
}

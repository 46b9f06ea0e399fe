package tests

import (
	"slices"
	"strconv"
	"strings"
	"sync"
	"testing"

	"loop.example/flexquorum/impl"
)

// checkNoStore checks that nothing is known of a list of pairs that is no store, and that no command succeeds on it.
func checkNoStore(t *testing.T, s []pair) {
	t.Helper()
	checkStoreValid(t, s, false)
	given := implStore(s)
	for _, key := range append(letters(), "", "g", "ab") {
		if got, ok := impl.StoreGet(given, key); got != 0 || ok {
			t.Fatalf("StoreGet(%v, %q) is %d, %v", s, key, got, ok)
		}
	}
	for _, p := range s[:min(len(s), 8)] {
		if got, ok := impl.StoreGet(given, p.Key); got != 0 || ok {
			t.Fatalf("StoreGet(%v, %q) is %d, %v", s, p.Key, got, ok)
		}
		for _, o := range []order{remove(p.Key), put(p.Key, 7), swap(p.Key, p.Value, 7)} {
			checkNothingApplied(t, s, o)
		}
	}
	// Among them commands that would fail for a store too.
	for _, o := range []order{put("a", 1), put("f", 99), remove("a"), swap("a", 1, 2), {}, put("g", 1), put("a", 100)} {
		checkNothingApplied(t, s, o)
	}
	if got, results := impl.StoreApplyAll(given, nil); len(got) != 0 || len(results) != 0 {
		t.Fatalf("StoreApplyAll(%v, nil) is %v, %v", s, got, results)
	}
	if got := impl.StoreEncode(given); got != "" {
		t.Fatalf("StoreEncode(%v) is %q", s, got)
	}
}

func checkNothingApplied(t *testing.T, s []pair, o order) {
	t.Helper()
	if got, ok := impl.StoreApply(implStore(s), impl.Command(o)); len(got) != 0 || ok {
		t.Fatalf("StoreApply(%v, %v) is %v, %v", s, o, got, ok)
	}
	if got, results := impl.StoreApplyAll(implStore(s), implRow([]order{o, put("a", 1)})); len(got) != 0 || len(results) != 0 {
		t.Fatalf("StoreApplyAll(%v, %v and a put) is %v, %v", s, o, got, results)
	}
}

func TestListsOfPairsThatAreNoStores(t *testing.T) {
	for _, s := range notStores() {
		checkNoStore(t, s)
	}
}

func TestAllShortListsOfPairs(t *testing.T) {
	stores := 0
	for i, s := range shortLists() {
		if isStore(s) {
			stores++
			checkStoreValid(t, s, true)
			continue
		}
		checkStoreValid(t, s, false)
		if i%10 == 0 {
			checkNoStore(t, s)
		}
	}
	// The empty one twice, 3 times 2 with one pair, 3 times 4 with two, and 8 with three.
	if stores != 28 {
		t.Errorf("%d lists are stores", stores)
	}
}

// All values next to the limits, and all keys of one byte.
func TestPairsByBothFields(t *testing.T) {
	for letter := range 256 {
		for _, value := range []int{-1, 0, 1, 2, 50, 98, 99, 100, 101} {
			p := pair{string([]byte{byte(letter)}), value}
			want := 'a' <= letter && letter <= 'f' && 1 <= value && value <= 99
			checkStoreValid(t, []pair{p}, want)
			if 'a' < letter {
				checkStoreValid(t, []pair{{"a", 5}, p}, want)
			}
			if letter < 'f' {
				checkStoreValid(t, []pair{p, {"f", 5}}, want)
			}
		}
	}
	for value := -300; value <= 600; value++ {
		checkStoreValid(t, []pair{{"b", 1}, {"d", value}, {"e", 99}}, 1 <= value && value <= 99)
	}
}

// All keys of one byte, and all operations and values next to the limits.
func TestCommandsByAllFields(t *testing.T) {
	c := cells{1, 0, 42, 99}
	for letter := range 256 {
		for op := -2; op <= 6; op++ {
			for _, value := range []int{-1, 0, 1, 42, 98, 99, 100, 101} {
				for _, expect := range []int{-1, 0, 1, 42, 99} {
					o := order{op, string([]byte{byte(letter)}), value, expect}
					want, ok := c.after(o)
					checkApply(t, c, o, want, ok)
				}
			}
		}
	}
}

// Commands that fail, alone and in the midst of others.
func TestCommandsThatFail(t *testing.T) {
	stores := someStores()
	for i, o := range failures() {
		for k := i % 16; k < len(stores); k += 16 {
			c := stores[k]
			checkApplyAll(t, c, []order{o}, c, []bool{false})
			checkApplyAll(t, c, []order{o, o, o}, c, []bool{false, false, false})
			want := c
			want[2], want[4] = 0, 9
			checkApplyAll(t, c, []order{put("c", 8), o, swap("c", 8, 9), o, remove("c"), put("e", 9), o}, want, []bool{true, false, true, false, true, true, false})
		}
	}
	for k, c := range stores {
		fail := swapsThatFail(c)
		checkApplyAll(t, c, fail, c, make([]bool, len(fail)))
		// What fails at first succeeds as soon as the value is the expected one.
		o := fail[k*13%len(fail)]
		if o.Expect < 1 || o.Expect > 99 {
			continue
		}
		want, _ := c.after(put(o.Key, o.Value))
		checkApplyAll(t, c, []order{o, put(o.Key, o.Expect), o}, want, []bool{false, true, true})
	}
}

// There is no limit for the number of commands.
func TestLongRows(t *testing.T) {
	for _, length := range []int{255, 256, 257, 1000, 1<<16 + 1} {
		row := make([]order, length)
		for i := range row {
			row[i] = put(letters()[i%6], i%99+1)
			if i%5 == 4 {
				row[i] = remove(letters()[i%6])
			}
		}
		for _, c := range []cells{{}, {9, 8, 7, 6, 5, 4}} {
			want, results := c.afterAll(row)
			checkApplyAll(t, c, row, want, results)
		}
	}
}

func TestTextsThatAreNoSnapshots(t *testing.T) {
	for _, text := range notSnapshots() {
		checkDecode(t, text, nil, false)
	}
	// What stands around a snapshot, or is missing.
	for _, c := range someStores() {
		text := c.text()
		checkDecode(t, text, c.pairs(), true)
		for _, around := range []string{" ", "\n", "\x00", "[", "]", "[]", ";", "a=1", "a"} {
			checkDecode(t, around+text, nil, false)
			checkDecode(t, text+around, nil, false)
		}
		for at := range len(text) {
			checkDecode(t, text[:at], nil, false)
			checkDecode(t, text[at+1:], nil, false)
		}
		checkDecode(t, strings.ToUpper(text)+text, nil, false)
	}
}

// The text that StoreEncode returns for what is no store is the snapshot of none.
func TestTheEmptyTextIsNoSnapshot(t *testing.T) {
	for _, s := range notStores() {
		checkDecode(t, impl.StoreEncode(implStore(s)), nil, false)
	}
}

// What lists of pairs look like in the form of a snapshot can only be decoded if they are stores.
func TestSnapshotsOfLists(t *testing.T) {
	for _, s := range append(shortLists(), notStores()...) {
		var want []pair
		ok := isStore(s)
		if ok {
			want = s
		}
		checkDecode(t, textOfPairs(s), want, ok)
	}
}

// textOfPairs writes pairs as a snapshot does.
func textOfPairs(s []pair) string {
	words := make([]string, len(s))
	for i, p := range s {
		words[i] = p.Key + "=" + strconv.Itoa(p.Value)
	}
	return "[" + strings.Join(words, ";") + "]"
}

// A nil slice and an empty one are the same.
func TestNilAndEmptyStores(t *testing.T) {
	for _, s := range [][]impl.Pair{nil, {}, make([]impl.Pair, 0, 20)} {
		if !impl.StoreValid(s) || impl.StoreEncode(s) != "[]" {
			t.Fatalf("the empty store is wrong: %v, %q", impl.StoreValid(s), impl.StoreEncode(s))
		}
		for _, o := range append(likelyOrders(cells{}), failures()...) {
			want, wantOk := cells{}.after(o)
			if got, ok := impl.StoreApply(s, impl.Command(o)); ok != wantOk || !slices.Equal(plainStore(got), want.pairs()) {
				t.Fatalf("StoreApply of the empty store and %v is %v, %v", o, got, ok)
			}
			if got, ok := impl.StoreGet(s, o.Key); got != 0 || ok {
				t.Fatalf("StoreGet of the empty store and %q is %d, %v", o.Key, got, ok)
			}
		}
		for _, l := range [][]impl.Command{nil, {}, make([]impl.Command, 0, 20)} {
			if got, results := impl.StoreApplyAll(s, l); len(got) != 0 || len(results) != 0 {
				t.Fatalf("StoreApplyAll of the empty store and no commands is %v, %v", got, results)
			}
			got, results := impl.StoreApplyAll(implStore([]pair{{"b", 2}}), l)
			if !slices.Equal(plainStore(got), []pair{{"b", 2}}) || len(results) != 0 {
				t.Fatalf("StoreApplyAll of a store and no commands is %v, %v", got, results)
			}
		}
	}
}

func pairsOf(s []impl.Pair) slice {
	return sliceOf(s, impl.Pair{Key: "zz", Value: -77}, func(p impl.Pair, q impl.Pair) bool { return p == q })
}

func ordersOf(l []impl.Command) slice {
	return sliceOf(l, impl.Command{Op: -77, Key: "zz"}, func(c impl.Command, d impl.Command) bool { return c == d })
}

// resultsOf returns a slice that is written to by turning each of its elements, since every constant may be there already.
func resultsOf(s []bool) slice {
	list := sliceOf(s, true, func(a bool, b bool) bool { return a == b })
	list.write = func() func() {
		turn := func() {
			for i, b := range s[:cap(s)] {
				s[:cap(s)][i] = !b
			}
		}
		turn()
		return turn
	}
	return list
}

// Neither are the arguments modified, nor do they and the results of several calls share memory, also where the store stays as it is.
func TestStoresShareNoMemory(t *testing.T) {
	var stores [][]pair
	for _, c := range someStores() {
		stores = append(stores, c.pairs())
	}
	stores = append(stores, notStores()[:60]...)
	allRows := rows()
	for i, s := range stores {
		for _, room := range []int{0, 1, 30} {
			given := slices.Grow(implStore(s), room)
			row := slices.Grow(implRow(allRows[i%len(allRows)]), room)
			list := []slice{pairsOf(given), ordersOf(row)}
			for range 2 {
				impl.StoreValid(given)
				impl.StoreGet(given, "c")
				for _, o := range []order{put("c", 42), put("a", 1), remove("d"), swap("b", 5, 6), {}} {
					next, _ := impl.StoreApply(given, impl.Command(o))
					list = append(list, pairsOf(next))
				}
				end, results := impl.StoreApplyAll(given, row)
				same, none := impl.StoreApplyAll(given, nil)
				restored, _ := impl.StoreDecode(impl.StoreEncode(given))
				list = append(list, pairsOf(end), resultsOf(results), pairsOf(same), resultsOf(none), pairsOf(restored))
				if !list[0].same() || !list[1].same() {
					t.Fatalf("a call modified %v or %v", s, row)
				}
			}
			checkSlicesApart(t, list)
		}
	}
}

// A store with several continuations: none of them shows in another, whatever room there is behind the store.
func TestContinuationsOfOneStore(t *testing.T) {
	for _, c := range someStores() {
		given := slices.Grow(implStore(c.pairs()), 30)
		orders := fewOrders(c)
		var results [][]impl.Pair
		for _, o := range orders {
			next, _ := impl.StoreApply(given, impl.Command(o))
			results = append(results, next)
		}
		for i, o := range orders {
			want, _ := c.after(o)
			if !slices.Equal(plainStore(results[i]), want.pairs()) || !slices.Equal(plainStore(given), c.pairs()) {
				t.Fatalf("behind %v, %v is %v, not %v", c.pairs(), o, results[i], want.pairs())
			}
		}
	}
}

// Calls at the same time, and calls that fail before, change nothing.
func TestStoresKeepNoState(t *testing.T) {
	stores, bad, texts, allRows := someStores(), notStores(), notSnapshots(), rows()
	var callers sync.WaitGroup
	for caller := range 4 {
		callers.Go(func() {
			for i, c := range stores {
				given := implStore(c.pairs())
				row := allRows[(i*5+caller)%len(allRows)]
				spoilt := implStore(bad[(i*7+caller)%len(bad)])
				impl.StoreApply(spoilt, impl.Command{Op: impl.OpPut, Key: "a", Value: 1})
				impl.StoreApplyAll(spoilt, implRow(row))
				impl.StoreApply(given, impl.Command{})
				impl.StoreDecode(texts[(i*3+caller)%len(texts)])
				impl.StoreGet(spoilt, "a")
				want, wantResults := c.afterAll(row)
				for range 2 {
					if got, results := impl.StoreApplyAll(given, implRow(row)); !slices.Equal(plainStore(got), want.pairs()) || !slices.Equal(results, wantResults) {
						t.Errorf("StoreApplyAll(%v, %v) is %v, %v", given, row, got, results)
					}
					for _, o := range fewOrders(c) {
						next, wantOk := c.after(o)
						if got, ok := impl.StoreApply(given, impl.Command(o)); ok != wantOk || !slices.Equal(plainStore(got), next.pairs()) {
							t.Errorf("StoreApply(%v, %v) is %v, %v", given, o, got, ok)
						}
					}
					text := impl.StoreEncode(given)
					if got, ok := impl.StoreDecode(text); text != c.text() || !ok || !slices.Equal(got, given) {
						t.Errorf("StoreDecode(%q) is %v, %v", text, got, ok)
					}
				}
			}
		})
	}
	callers.Wait()
}

// The order in which a map is read does not show.
func TestStoresAreAlwaysInOrder(t *testing.T) {
	full := cells{6, 5, 4, 3, 2, 1}
	for range 500 {
		checkApplyAll(t, full, []order{remove("c"), put("c", 4)}, full, []bool{true, true})
		checkEncode(t, full, "[a=6;b=5;c=4;d=3;e=2;f=1]")
	}
}

package impl

import (
	"maps"
	"testing"
)

// Commands are closures over the store: they find what is there when they are performed, not what was there when they were made.
func TestOperationsFindTheStoreAsItIs(t *testing.T) {
	s, other := store{}, store{"a": 2}
	steps := []struct {
		operation operation
		succeeds  bool
		want      store
	}{
		{s.operationOf(Command{Op: OpSwap, Key: "a", Value: 3, Expect: 2}), false, store{}},
		{s.operationOf(Command{Op: OpPut, Key: "a", Value: 2}), true, store{"a": 2}},
		{s.operationOf(Command{Op: OpDelete, Key: "b"}), false, store{"a": 2}},
		{s.operationOf(Command{Op: OpPut, Key: "b", Value: 1}), true, store{"a": 2, "b": 1}},
	}
	if len(s) != 0 {
		t.Fatalf("making operations leads to %v", s)
	}
	for _, step := range steps {
		if ok := step.operation(); ok != step.succeeds || !maps.Equal(s, step.want) {
			t.Fatalf("an operation returns %v and leads to %v", ok, s)
		}
	}
	// The same operations again: the swap now finds what it expects, and the deletion its key.
	for i, step := range steps {
		if !step.operation() {
			t.Errorf("operation %d fails the second time", i)
		}
	}
	if !maps.Equal(s, store{"a": 2, "b": 1}) || !maps.Equal(other, store{"a": 2}) {
		t.Errorf("the operations lead to %v and %v", s, other)
	}
}

package impl

import (
	"errors"
	"testing"
)

// No exported function shows why a configuration is not safe.
func TestErrorsOfConfigurations(t *testing.T) {
	one, two := [][]int{{1}}, [][]int{{2}}
	tests := []struct {
		c    Config
		want error
	}{
		{Config{Prepare: one, Accept: one}, nil},
		{Config{Prepare: one, Accept: two}, errUnsafe},
		{Config{}, errIncomplete},
		{Config{Prepare: one}, errIncomplete},
		{Config{Accept: one}, errIncomplete},
		{Config{Prepare: [][]int{{2}, {1}}, Accept: one}, errIncomplete},
		{Config{Prepare: one, Accept: [][]int{{}}}, errIncomplete},
	}
	for _, test := range tests {
		if err := checkConfig(test.c); !errors.Is(err, test.want) {
			t.Errorf("the error of %v is %v, not %v", test.c, err, test.want)
		}
		if got, want := isComplete(test.c), !errors.Is(test.want, errIncomplete); got != want {
			t.Errorf("%v is complete: %v", test.c, got)
		}
	}
}

package tests

import (
	"slices"
	"testing"

	"loop.example/g00099/impl"
)

func TestFixedLengths(t *testing.T) {
	first, second := impl.FixedLengths()
	if !slices.Equal(first, fixedFirst()) || !slices.Equal(second, fixedSecond()) {
		t.Fatalf("%v, %v", first, second)
	}
	first[0], second[0] = 1, 1
	again, other := impl.FixedLengths()
	if !slices.Equal(again, fixedFirst()) || !slices.Equal(other, fixedSecond()) {
		t.Errorf("a second call: %v, %v", again, other)
	}
}

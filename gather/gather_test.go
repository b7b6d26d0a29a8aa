package gather

import (
	"bytes"
	"slices"
	"testing"

	"murmur/api"
)

// small: "abcdefg" is two blocks, of two symbols and of one.
var small = api.Config{K: 2, N: 4, S: 3}

func wantLacks(t *testing.T, k *Known, want ...api.Lack) {
	t.Helper()
	if got := k.Lacks(); !slices.Equal(got, want) {
		t.Fatalf("%v, want %v", got, want)
	}
	if k.IsWhole() != (len(want) == 0) {
		t.Fatalf("whole: %v, but it lacks %v", k.IsWhole(), want)
	}
}

func TestKnown(t *testing.T) {
	k := Of(small, 7)
	if k.Length() != 7 {
		t.Errorf("%d bytes", k.Length())
	}
	wantLacks(t, k, api.Lack{Block: 0, Many: 2}, api.Lack{Block: 1, Many: 1})
	k.Add(0, 1, []byte("def"))
	wantLacks(t, k, api.Lack{Block: 0, Many: 1}, api.Lack{Block: 1, Many: 1})
	k.Add(0, 1, []byte("xyz"))
	wantLacks(t, k, api.Lack{Block: 0, Many: 1}, api.Lack{Block: 1, Many: 1})
	k.Add(1, 3, []byte("g\x00\x00"))
	wantLacks(t, k, api.Lack{Block: 0, Many: 1})
	k.Add(1, 0, []byte("xyz"))
	wantLacks(t, k, api.Lack{Block: 0, Many: 1})
	k.Add(0, 0, []byte("abc"))
	wantLacks(t, k)
	k.Add(0, 2, []byte("xyz"))
	if got := k.Bytes(); !bytes.Equal(got, []byte("abcdefg")) || cap(got) != 7 {
		t.Errorf("%q, with room for %d", got, cap(got))
	}
}

func TestKnownKeepsNoMoreThanItNeeds(t *testing.T) {
	k := Of(small, 7)
	for range 3 {
		for place := range 4 {
			k.Add(0, place, []byte("abc"))
		}
	}
	if got := len(k.blocks[0].symbols); got != 2 {
		t.Errorf("%d symbols", got)
	}
}

func TestBytesAreNewMemory(t *testing.T) {
	k := Of(small, 3)
	k.Add(0, 0, []byte("abc"))
	first := k.Bytes()
	first[0] = 'x'
	if got := k.Bytes(); !bytes.Equal(got, []byte("abc")) {
		t.Errorf("%q", got)
	}
}

func TestAnObjectWithoutBytes(t *testing.T) {
	k := Of(small, 0)
	wantLacks(t, k, api.Lack{Block: 0, Many: 1})
	k.Add(0, 2, []byte("xyz"))
	wantLacks(t, k)
	if got := k.Bytes(); len(got) != 0 {
		t.Errorf("%q", got)
	}
}

package cut

import (
	"bytes"
	"math"
	"slices"
	"testing"

	"murmur/api"
)

func TestIsConfig(t *testing.T) {
	numbers := []int{math.MinInt, -1, 0, 1, 2, 7, 8, 9, 15, 16, 17, math.MaxInt}
	for _, k := range numbers {
		for _, n := range numbers {
			for _, s := range numbers {
				want := k >= 1 && k <= 8 && n >= k && n <= 16 && s >= 1 && s <= 8
				if got := IsConfig(api.Config{K: k, N: n, S: s}); got != want {
					t.Errorf("K %d, N %d, S %d: %v", k, n, s, got)
				}
			}
		}
	}
}

// sizes goes through an object byte by byte: the source symbols of each of its blocks.
func sizes(c api.Config, length int) []int {
	blocks := []int{1}
	for at := c.S; at < length; at += c.S {
		if last := len(blocks) - 1; blocks[last] < c.K {
			blocks[last]++
		} else {
			blocks = append(blocks, 1)
		}
	}
	return blocks
}

func TestPlans(t *testing.T) {
	for k := 1; k <= api.MaxK; k++ {
		for s := 1; s <= api.MaxS; s++ {
			for length := range api.MaxObject + 1 {
				c := api.Config{K: k, N: api.MaxN, S: s}
				plan, want := Of(c, length), sizes(c, length)
				sum := 0
				var got []int
				for block := range plan.Blocks() {
					got = append(got, plan.Sources(block))
					sum += plan.Sources(block)
				}
				if !slices.Equal(got, want) || sum != plan.Symbols() {
					t.Fatalf("%+v, %d bytes: blocks %v, %d symbols, want %v", c, length, got, plan.Symbols(), want)
				}
			}
		}
	}
}

func TestBlocksAndPlacesAtTheirBounds(t *testing.T) {
	plan := Of(api.Config{K: 4, N: 6, S: 2}, 11) // six symbols: four, and two
	for block, want := range map[int]bool{-1: false, 0: true, 1: true, 2: false, 255: false} {
		if plan.HasBlock(block) != want {
			t.Errorf("block %d", block)
		}
	}
	for block, want := range [][]int{{0, 1, 2, 3, 4, 5}, {0, 1, 4, 5}} {
		for place := -1; place < 256; place++ {
			if plan.HasPlace(block, place) != slices.Contains(want, place) {
				t.Errorf("block %d, place %d", block, place)
			}
		}
	}
	bare := Of(api.Config{K: 4, N: 4, S: 2}, 1)
	for place := -1; place < 256; place++ {
		if bare.HasPlace(0, place) != (place == 0) {
			t.Errorf("no repair symbols: place %d", place)
		}
	}
}

func TestSource(t *testing.T) {
	c := api.Config{K: 2, N: 4, S: 3}
	for _, w := range []struct {
		object string
		blocks [][]string
	}{
		{"", [][]string{{"\x00\x00\x00"}}},
		{"a", [][]string{{"a\x00\x00"}}},
		{"abc", [][]string{{"abc"}}},
		{"abcd", [][]string{{"abc", "d\x00\x00"}}},
		{"abcdef", [][]string{{"abc", "def"}}},
		{"abcdefgh", [][]string{{"abc", "def"}, {"gh\x00"}}},
	} {
		// Spare room behind the object must not be told as if it were of it.
		object := append([]byte(w.object), "xyz"...)[:len(w.object)]
		plan := Of(c, len(object))
		for block, want := range w.blocks {
			got := plan.Source(object, block)
			if !slices.EqualFunc(got, want, func(g []byte, w string) bool { return bytes.Equal(g, []byte(w)) }) {
				t.Errorf("%q, block %d: %q, want %q", w.object, block, got, want)
			}
		}
		if plan.Blocks() != len(w.blocks) {
			t.Errorf("%q: %d blocks, want %d", w.object, plan.Blocks(), len(w.blocks))
		}
	}
}

package murmur_test

import (
	"errors"
	"math"
	"testing"

	"murmur/api"
	"murmur/murmur"
)

// bounds: configurations at their bounds, and some between.
var bounds = []api.Config{
	{K: 1, N: 1, S: 1}, {K: 1, N: 16, S: 1}, {K: 1, N: 2, S: 8}, {K: 8, N: 8, S: 1}, {K: 8, N: 16, S: 8},
	{K: 8, N: 9, S: 3}, {K: 2, N: 4, S: 3}, {K: 3, N: 3, S: 1}, {K: 5, N: 7, S: 2}, {K: 4, N: 16, S: 5},
}

// noConfigs: what is no configuration.
var noConfigs = []api.Config{
	{}, {K: 0, N: 1, S: 1}, {K: -1, N: 1, S: 1}, {K: 9, N: 9, S: 1}, {K: 9, N: 16, S: 1}, {K: 2, N: 1, S: 1},
	{K: 1, N: 0, S: 1}, {K: 8, N: 7, S: 1}, {K: 1, N: 17, S: 1}, {K: 8, N: 17, S: 8}, {K: 1, N: 1, S: 0},
	{K: 1, N: 1, S: 9}, {K: 1, N: 1, S: -1}, {K: 0, N: 0, S: 1}, {K: -1, N: -1, S: 1},
	{K: math.MinInt, N: 1, S: 1}, {K: math.MaxInt, N: math.MaxInt, S: 1}, {K: 1, N: math.MaxInt, S: 1},
	{K: 1, N: math.MinInt, S: 1}, {K: 1, N: 1, S: math.MaxInt}, {K: 1, N: 1, S: math.MinInt},
}

// someLengths: lengths of objects around the ends of symbols and blocks, and at their bounds.
func someLengths(c api.Config) []int {
	lengths := []int{0, 1, api.MaxObject - 1, api.MaxObject}
	for _, near := range []int{c.S, c.S * c.K, 2 * c.S * c.K} {
		lengths = append(lengths, near-1, near, near+1)
	}
	return lengths
}

func bytesOf(length int) []byte {
	object := make([]byte, length)
	for i := range object {
		object[i] = byte(1 + 37*i + 11*length)
	}
	return object
}

// cutUp is the source symbols of each block of an object, byte by byte.
func cutUp(c api.Config, object []byte) [][][]byte {
	blocks := [][][]byte{{make([]byte, c.S)}}
	for i, b := range object {
		if i > 0 && i%c.S == 0 {
			if len(blocks[len(blocks)-1]) == c.K {
				blocks = append(blocks, nil)
			}
			last := len(blocks) - 1
			blocks[last] = append(blocks[last], make([]byte, c.S))
		}
		symbols := blocks[len(blocks)-1]
		symbols[len(symbols)-1][i%c.S] = b
	}
	return blocks
}

// roundOf is the places of a block of k symbols, those of the repair symbols first.
func roundOf(c api.Config, k int) []int {
	var places []int
	for place := c.K; place < c.N; place++ {
		places = append(places, place)
	}
	return append(places, firstPlaces(k)...)
}

func dataPacket(t *testing.T, c api.Config, number int, object []byte, block, place int) []byte {
	t.Helper()
	symbol, e := murmur.Symbol(cutUp(c, object)[block], place)
	if e != nil {
		t.Fatalf("block %d, place %d: %v", block, place, e)
	}
	return append([]byte{1, byte(number), 0, byte(len(object)), byte(block), byte(place)}, symbol...)
}

func askPacket(number, length int, asks ...api.Lack) []byte {
	b := []byte{2, byte(number), byte(length >> 8), byte(length), byte(len(asks))}
	for _, a := range asks {
		b = append(b, byte(a.Block), byte(a.Many))
	}
	return b
}

// allLacks asks for all symbols of all blocks.
func allLacks(c api.Config, object []byte) []api.Lack {
	var asks []api.Lack
	for block, source := range cutUp(c, object) {
		asks = append(asks, api.Lack{Block: block, Many: len(source)})
	}
	return asks
}

// isBad holds an answer against an error with its place: the answer itself is an *api.Bad.
func isBad(e, want error, at int) bool {
	bad, is := e.(*api.Bad)
	var found *api.Bad
	return is && bad.Err == want && bad.At == at && errors.Is(e, want) && errors.As(e, &found) && found.At == at
}

package murmur

import (
	"slices"

	"murmur/api"
)

// maxPlace: a place is a number of the field, so that the polynomial of a block has something there.
const maxPlace = 255

func isCount(k int) bool { return 1 <= k && k <= api.MaxK }

func isPlace(place int) bool { return 0 <= place && place <= maxPlace }

func arePlaces(places []int) bool {
	for i, place := range places {
		if !isPlace(place) || slices.Contains(places[:i], place) {
			return false
		}
	}
	return true
}

func ofOneLength(symbols [][]byte) bool {
	for _, symbol := range symbols {
		if len(symbol) != len(symbols[0]) {
			return false
		}
	}
	return true
}

func sourcePlaces(k int) []byte {
	places := make([]byte, k)
	for i := range places {
		places[i] = byte(i)
	}
	return places
}

func toBytes(places []int) []byte {
	numbers := make([]byte, len(places))
	for i, place := range places {
		numbers[i] = byte(place)
	}
	return numbers
}

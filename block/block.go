// Package block: what some symbols of a block say of its other ones.
package block

import "murmur/field"

// Symbol is the symbol at place of the block that has symbols at places. There is at least one of them, there are as
// many places, all of them others, and the symbols are of one length.
func Symbol(places []byte, symbols [][]byte, place byte) []byte {
	sum := make([]byte, len(symbols[0]))
	for i, symbol := range symbols {
		addTimes(sum, symbol, weight(places, i, place))
	}
	return sum
}

// Source is all source symbols of the block that has symbols at places: it has as many of them as are told of it.
func Source(places []byte, symbols [][]byte) [][]byte {
	source := make([][]byte, len(symbols))
	for place := range source {
		source[place] = Symbol(places, symbols, byte(place))
	}
	return source
}

// weight is what the polynomial that is 1 at places[i], and 0 at the other places, has at place (after Lagrange).
func weight(places []byte, i int, place byte) byte {
	over, under := byte(1), byte(1)
	for j, other := range places {
		if j != i {
			over = field.Mul(over, place^other)
			under = field.Mul(under, places[i]^other)
		}
	}
	return field.Mul(over, field.Inverse(under))
}

func addTimes(sum []byte, symbol []byte, factor byte) {
	for i, b := range symbol {
		sum[i] ^= field.Mul(factor, b)
	}
}

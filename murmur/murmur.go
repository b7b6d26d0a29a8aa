// Package murmur: things told to many over a net that loses, and made whole again: see DOC.md.
package murmur

import (
	"murmur/api"
	"murmur/block"
	"murmur/cut"
	"murmur/field"
	"murmur/wire"
)

// Mul is the product in the field (P3).
func Mul(a byte, b byte) byte { return field.Mul(a, b) }

// Symbol is a symbol of a block (P3).
func Symbol(source [][]byte, place int) ([]byte, error) {
	if !isCount(len(source)) || !ofOneLength(source) || !isPlace(place) {
		return nil, api.ErrArg
	}
	return block.Symbol(sourcePlaces(len(source)), source, byte(place)), nil
}

// Restore gives source symbols back (P3).
func Restore(k int, places []int, symbols [][]byte) ([][]byte, error) {
	if !isCount(k) || len(places) != k || len(symbols) != k {
		return nil, api.ErrArg
	}
	if !arePlaces(places) || !ofOneLength(symbols) {
		return nil, api.ErrArg
	}
	return block.Source(toBytes(places), symbols), nil
}

// Parse reads a packet (P4).
func Parse(c api.Config, packet []byte) (api.Packet, error) {
	if !cut.IsConfig(c) {
		return api.Packet{}, api.ErrConfig
	}
	return wire.Parse(c, packet)
}

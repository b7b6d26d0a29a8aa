// Package murmur: things told to many over a net that loses, and made whole again: see DOC.md.
package murmur

import (
	"murmur/api"
	"murmur/block"
	"murmur/cut"
	"murmur/field"
	"murmur/wire"
)

// Receiver takes objects.
type Receiver struct{}

// Mul is the product in the field (P3).
func Mul(a byte, b byte) byte { return field.Mul(a, b) }

// Symbol is a symbol of a block (P3).
func Symbol(source [][]byte, place int) ([]byte, error) {
	if !isCount(len(source)) || !ofOneLength(source) || !isPlace(place) {
		return nil, api.ErrArg
	}
	return block.Symbol(sourcePlaces(len(source)), source, byte(place)), nil
}

// Restore gives source symbols back (P3).
func Restore(k int, places []int, symbols [][]byte) ([][]byte, error) {
	if !isCount(k) || len(places) != k || len(symbols) != k {
		return nil, api.ErrArg
	}
	if !arePlaces(places) || !ofOneLength(symbols) {
		return nil, api.ErrArg
	}
	known := toBytes(places)
	source := make([][]byte, k)
	for i, place := range sourcePlaces(k) {
		source[i] = block.Symbol(known, symbols, place)
	}
	return source, nil
}

// Parse reads a packet (P4).
func Parse(c api.Config, packet []byte) (api.Packet, error) {
	if !cut.IsConfig(c) {
		return api.Packet{}, api.ErrConfig
	}
	return wire.Parse(c, packet)
}

// NewReceiver makes a receiver (P7).
func NewReceiver(c api.Config) (*Receiver, error) { return nil, nil }

// Hear hears a packet (P7).
func (r *Receiver) Hear(packet []byte) error { return nil }

// Ask asks for what is lacking (P8).
func (r *Receiver) Ask() ([]byte, error) { return nil, nil }

// Taken tells objects that were taken (P8).
func (r *Receiver) Taken() ([]api.Object, error) { return nil, nil }

// Close closes the receiver (P8).
func (r *Receiver) Close() error { return nil }

// Package gather: what is known of an object that is not whole yet.
package gather

import (
	"slices"

	"murmur/api"
	"murmur/block"
	"murmur/cut"
)

// Known is the length of an object, and some symbols of its blocks.
type Known struct {
	length int
	plan   cut.Plan
	blocks []part
}

// part is some symbols of a block, and the place of each.
type part struct {
	places  []byte
	symbols [][]byte
}

// Of knows nothing yet but how long the object is. c is a configuration.
func Of(c api.Config, length int) *Known {
	plan := cut.Of(c, length)
	return &Known{length, plan, make([]part, plan.Blocks())}
}

// Length is the object's length.
func (k *Known) Length() int { return k.length }

// Add comes to know a symbol of the object, and keeps it, if it is of use.
func (k *Known) Add(which, place int, symbol []byte) {
	p := &k.blocks[which]
	if k.lack(which) == 0 || slices.Contains(p.places, byte(place)) {
		return
	}
	p.places = append(p.places, byte(place))
	p.symbols = append(p.symbols, symbol)
}

// lack is how many more symbols the block needs.
func (k *Known) lack(which int) int { return k.plan.Sources(which) - len(k.blocks[which].symbols) }

// Lacks is what the blocks lack that are not whole.
func (k *Known) Lacks() []api.Lack {
	var lacks []api.Lack
	for which := range k.blocks {
		if many := k.lack(which); many > 0 {
			lacks = append(lacks, api.Lack{Block: which, Many: many})
		}
	}
	return lacks
}

// IsWhole tells whether no block lacks a symbol.
func (k *Known) IsWhole() bool { return len(k.Lacks()) == 0 }

// Bytes is the object, in memory of its own. It is whole.
func (k *Known) Bytes() []byte {
	var all []byte
	for _, p := range k.blocks {
		for _, symbol := range block.Source(p.places, p.symbols) {
			all = append(all, symbol...)
		}
	}
	// What the last symbol was filled up with is not of the object.
	return all[:k.length:k.length]
}

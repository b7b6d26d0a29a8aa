// Package cut: how an object is cut into symbols, and these into blocks.
package cut

import "murmur/api"

// IsConfig tells whether c is a configuration.
func IsConfig(c api.Config) bool {
	return within(c.K, 1, api.MaxK) && within(c.N, c.K, api.MaxN) && within(c.S, 1, api.MaxS)
}

func within(number, least, most int) bool { return least <= number && number <= most }

// Plan is how all objects of one length are cut.
type Plan struct {
	config  api.Config
	symbols int
}

// Of is the plan for objects of this length. c is a configuration.
func Of(c api.Config, length int) Plan {
	// An object without bytes has a symbol all the same: else nobody would hear of it.
	return Plan{c, max(1, parts(length, c.S))}
}

// parts is how many parts of a size, the last one maybe smaller, make up all.
func parts(all, size int) int { return (all + size - 1) / size }

// Symbols is how many source symbols the object has.
func (p Plan) Symbols() int { return p.symbols }

// Blocks is how many blocks the object has.
func (p Plan) Blocks() int { return parts(p.symbols, p.config.K) }

// HasBlock tells whether the object has this block.
func (p Plan) HasBlock(block int) bool { return within(block, 0, p.Blocks()-1) }

// Sources is how many source symbols the block has.
func (p Plan) Sources(block int) int { return min(p.config.K, p.symbols-block*p.config.K) }

// HasPlace tells whether a symbol of the block has this place.
func (p Plan) HasPlace(block, place int) bool {
	return within(place, 0, p.Sources(block)-1) || within(place, p.config.K, p.config.N-1)
}

// Source is the source symbols of a block of the object, in memory of their own.
func (p Plan) Source(object []byte, block int) [][]byte {
	source := make([][]byte, p.Sources(block))
	for i := range source {
		source[i] = p.symbol(object, block*p.config.K+i)
	}
	return source
}

func (p Plan) symbol(object []byte, number int) []byte {
	symbol := make([]byte, p.config.S)
	from := number * p.config.S
	copy(symbol, object[from:min(from+p.config.S, len(object))])
	return symbol
}

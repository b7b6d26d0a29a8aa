// Package wire: packets as bytes, read and written.
package wire

import (
	"bytes"
	"errors"

	"murmur/api"
	"murmur/cut"
)

// Where the numbers stand that each packet begins with, and how many bytes they take.
const (
	KindAt   = 0
	ObjectAt = 1
	LengthAt = 2
	headSize = 4
)

// Wrong tells err at a place of a packet.
func Wrong(err error, at int) error { return &api.Bad{At: at, Err: err} }

// Parse reads a packet. c is a configuration.
func Parse(c api.Config, packet []byte) (api.Packet, error) {
	p, err := parseHead(packet)
	if err != nil {
		return api.Packet{}, err
	}
	body := &reader{bytes: packet[headSize:]}
	plan := cut.Of(c, p.Length)
	if p.Kind == api.Data {
		p.Block, p.Place, p.Data, err = parseData(plan, c.S, body)
	} else {
		p.Asks, err = parseAsks(plan, body)
	}
	if err != nil {
		return api.Packet{}, behind(headSize, err)
	}
	return p, nil
}

func parseHead(packet []byte) (api.Packet, error) {
	r := &reader{bytes: packet}
	kind, err := r.number(1, api.ErrType, func(n int) bool { return n == api.Data || n == api.Ask })
	if err != nil {
		return api.Packet{}, err
	}
	object, err := r.number(1, api.ErrField, func(n int) bool { return n < api.MaxObjects })
	if err != nil {
		return api.Packet{}, err
	}
	length, err := r.number(2, api.ErrField, func(n int) bool { return n <= api.MaxObject })
	if err != nil {
		return api.Packet{}, err
	}
	return api.Packet{Kind: kind, Object: object, Length: length}, nil
}

func parseData(plan cut.Plan, size int, r *reader) (block int, place int, symbol []byte, err error) {
	block, err = r.number(1, api.ErrField, plan.HasBlock)
	if err != nil {
		return 0, 0, nil, err
	}
	place, err = r.number(1, api.ErrField, func(n int) bool { return plan.HasPlace(block, n) })
	if err != nil {
		return 0, 0, nil, err
	}
	symbol, err = r.next(size)
	if err != nil {
		return 0, 0, nil, err
	}
	return block, place, bytes.Clone(symbol), r.end()
}

func parseAsks(plan cut.Plan, r *reader) ([]api.Lack, error) {
	many, err := r.number(1, api.ErrField, func(n int) bool { return 1 <= n && n <= plan.Blocks() })
	if err != nil {
		return nil, err
	}
	asks := make([]api.Lack, 0, many)
	least := 0
	for range many {
		lack, err := parseLack(plan, least, r)
		if err != nil {
			return nil, err
		}
		asks = append(asks, lack)
		least = lack.Block + 1
	}
	return asks, r.end()
}

// parseLack reads what a block lacks that is not below least.
func parseLack(plan cut.Plan, least int, r *reader) (api.Lack, error) {
	block, err := r.number(1, api.ErrField, func(n int) bool { return least <= n && plan.HasBlock(n) })
	if err != nil {
		return api.Lack{}, err
	}
	many, err := r.number(1, api.ErrField, func(n int) bool { return 1 <= n && n <= plan.Sources(block) })
	if err != nil {
		return api.Lack{}, err
	}
	return api.Lack{Block: block, Many: many}, nil
}

// behind moves what is wrong with a piece of a packet to its place in the packet, where so many bytes stand ahead.
func behind(ahead int, err error) error {
	var bad *api.Bad
	if errors.As(err, &bad) {
		return Wrong(bad.Err, ahead+bad.At)
	}
	return err
}

// DataBytes is a DATA packet as bytes.
func DataBytes(p api.Packet) []byte {
	b := append(headBytes(api.Data, p), byte(p.Block), byte(p.Place))
	return append(b, p.Data...)
}

// AskBytes is an ASK packet as bytes.
func AskBytes(p api.Packet) []byte {
	b := append(headBytes(api.Ask, p), byte(len(p.Asks)))
	for _, lack := range p.Asks {
		b = append(b, byte(lack.Block), byte(lack.Many))
	}
	return b
}

func headBytes(kind byte, p api.Packet) []byte {
	return []byte{kind, byte(p.Object), byte(p.Length >> 8), byte(p.Length)}
}

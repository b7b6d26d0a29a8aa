package murmur

import (
	"bytes"

	"murmur/api"
	"murmur/block"
	"murmur/cut"
	"murmur/wire"
)

// Sender tells objects.
type Sender struct {
	config  api.Config
	objects []told // by their numbers
	next    source
}

// told is an object of a sender.
type told struct {
	bytes []byte
	debts []debt // by blocks
}

// debt is how many symbols a block is owed, and the turn of its places at which they go on.
type debt struct {
	owed, turn int
}

// source is a source symbol: the number of its object, and which one of the object's it is.
type source struct {
	object, symbol int
}

// NewSender makes a sender (P5).
func NewSender(c api.Config) (*Sender, error) {
	if !cut.IsConfig(c) {
		return nil, api.ErrConfig
	}
	return &Sender{config: c}, nil
}

// Enqueue takes an object in (P5).
func (s *Sender) Enqueue(object []byte) (int, error) {
	if len(object) > api.MaxObject {
		return 0, api.ErrArg
	}
	number := len(s.objects)
	if number == api.MaxObjects {
		return 0, api.ErrFull
	}
	debts := make([]debt, cut.Of(s.config, len(object)).Blocks())
	s.objects = append(s.objects, told{bytes.Clone(object), debts})
	return number, nil
}

// Next tells a packet (P5).
func (s *Sender) Next() ([]byte, bool) {
	if s.next.object < len(s.objects) {
		return s.sendSource(), true
	}
	for number, object := range s.objects {
		for i, d := range object.debts {
			if d.owed > 0 {
				return s.sendOwed(number, i), true
			}
		}
	}
	return nil, false
}

// sendSource sends the next source symbol.
func (s *Sender) sendSource() []byte {
	at := s.next
	s.next.symbol++
	if s.next.symbol == s.plan(at.object).Symbols() {
		s.next = source{object: at.object + 1}
	}
	return s.data(at.object, at.symbol/s.config.K, at.symbol%s.config.K)
}

// sendOwed sends one of the symbols that a block is owed.
func (s *Sender) sendOwed(number, which int) []byte {
	d := &s.objects[number].debts[which]
	place := s.placeAt(d.turn)
	d.owed--
	d.turn = (d.turn + 1) % (s.repairs() + s.plan(number).Sources(which))
	return s.data(number, which, place)
}

// placeAt is the place at a turn: repair symbols come ahead of source symbols, as none of them was told before.
func (s *Sender) placeAt(turn int) int {
	if turn < s.repairs() {
		return s.config.K + turn
	}
	return turn - s.repairs()
}

func (s *Sender) repairs() int { return s.config.N - s.config.K }

// data is the DATA packet of a symbol.
func (s *Sender) data(number, which, place int) []byte {
	object := s.objects[number].bytes
	source := s.plan(number).Source(object, which)
	symbol := block.Symbol(sourcePlaces(len(source)), source, byte(place))
	return wire.DataBytes(api.Packet{Object: number, Length: len(object), Block: which, Place: place, Data: symbol})
}

func (s *Sender) plan(number int) cut.Plan { return cut.Of(s.config, len(s.objects[number].bytes)) }

// Hear hears a packet (P6).
func (s *Sender) Hear(packet []byte) error {
	p, err := wire.Parse(s.config, packet)
	if err != nil {
		return err
	}
	if p.Object >= len(s.objects) {
		return wire.Wrong(api.ErrField, wire.ObjectAt)
	}
	object := s.objects[p.Object]
	if p.Length != len(object.bytes) {
		return wire.Wrong(api.ErrField, wire.LengthAt)
	}
	if p.Kind != api.Ask {
		return wire.Wrong(api.ErrType, wire.KindAt)
	}
	for _, lack := range p.Asks {
		d := &object.debts[lack.Block]
		d.owed = max(d.owed, lack.Many)
	}
	return nil
}

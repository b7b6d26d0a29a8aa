package murmur_test

import (
	"reflect"
	"slices"
	"testing"

	"murmur/api"
	"murmur/murmur"
)

// hearer is a receiver in plain lists: each packet that told it something new is kept as it is.
type hearer struct {
	c      api.Config
	open   []heard
	taken  []int
	untold []api.Object
}

type heard struct {
	number, length int
	packets        []api.Packet
}

func (h *hearer) hear(b []byte) error {
	p, e := murmur.Parse(h.c, b)
	if e != nil {
		return e
	}
	if p.Kind == api.Ask || slices.Contains(h.taken, p.Object) {
		return nil
	}
	i := slices.IndexFunc(h.open, func(o heard) bool { return o.number == p.Object })
	if i >= 0 && h.open[i].length != p.Length {
		return &api.Bad{At: 2, Err: api.ErrField}
	}
	if i < 0 && len(h.open) == 4 {
		return api.ErrFull
	}
	if i < 0 {
		i = len(h.open)
		h.open = append(h.open, heard{number: p.Object, length: p.Length})
	}
	h.learn(i, p)
	return nil
}

func (h *hearer) learn(i int, p api.Packet) {
	o := &h.open[i]
	same := func(other api.Packet) bool { return other.Block == p.Block && other.Place == p.Place }
	full := !slices.ContainsFunc(h.lacks(*o), func(l api.Lack) bool { return l.Block == p.Block })
	if full || slices.ContainsFunc(o.packets, same) {
		return
	}
	o.packets = append(o.packets, p)
	if len(h.lacks(*o)) == 0 {
		h.taken = append(h.taken, o.number)
		h.untold = append(h.untold, api.Object{Number: o.number, Bytes: h.whole(*o)})
		h.open = slices.Delete(h.open, i, i+1)
	}
}

func (h *hearer) lacks(o heard) []api.Lack {
	lacks := allLacks(h.c, make([]byte, o.length))
	for _, p := range o.packets {
		lacks = without(lacks, p.Block)
	}
	return lacks
}

func (h *hearer) whole(o heard) []byte {
	var all []byte
	for _, l := range allLacks(h.c, make([]byte, o.length)) {
		var places []int
		var symbols [][]byte
		for _, p := range o.packets {
			if p.Block == l.Block {
				places, symbols = append(places, p.Place), append(symbols, p.Data)
			}
		}
		source, _ := murmur.Restore(l.Many, places, symbols)
		all = append(all, slices.Concat(source...)...)
	}
	return all[:o.length]
}

func (h *hearer) ask() []byte {
	var least *heard
	for i := range h.open {
		if least == nil || h.open[i].number < least.number {
			least = &h.open[i]
		}
	}
	if least == nil {
		return nil
	}
	return askPacket(least.number, least.length, h.lacks(*least)...)
}

// anyData is a packet of one of the objects that there may be, of one that is long more seldom; the symbol is any one.
func anyData(seed *uint32, c api.Config) []byte {
	number := int(draw(seed)) % api.MaxObjects
	length := number * 3 * c.S % 40
	if draw(seed)%16 == 0 {
		length++
	}
	blocks := cutUp(c, make([]byte, length))
	block := int(draw(seed)) % len(blocks)
	round := roundOf(c, len(blocks[block]))
	b := []byte{1, byte(number), 0, byte(length), byte(block), byte(round[int(draw(seed))%len(round)])}
	for range c.S {
		b = append(b, byte(draw(seed)))
	}
	return b
}

func TestReceiverAgainstAModel(t *testing.T) {
	seed := uint32(11)
	answers := map[error]int{}
	for round := range 200 {
		c := bounds[round%len(bounds)]
		h, r := &hearer{c: c}, newReceiver(t, c)
		for range 300 {
			b := anyData(&seed, c)
			if draw(&seed)%8 == 0 {
				b = anyBytes(&seed, 12)
			}
			want := h.hear(b)
			if e := r.Hear(b); !reflect.DeepEqual(e, want) {
				t.Fatalf("P7: %+v: Hear(%v): %v, want %v", c, b, e, want)
			}
			answers[want]++
			wantAsk(t, r, h.ask())
			if draw(&seed)%4 == 0 {
				wantTaken(t, r, h.untold...)
				h.untold = nil
			}
		}
		wantTaken(t, r, h.untold...)
		if e := r.Close(); e != nil {
			t.Fatalf("P8: Close: %v", e)
		}
		wantClosed(t, r)
	}
	if answers[nil] == 0 || answers[api.ErrFull] == 0 {
		t.Errorf("the packets told too little: %v", answers)
	}
}

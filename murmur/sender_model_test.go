package murmur_test

import (
	"testing"

	"murmur/api"
)

// model is a sender in plain lists: what is to be sent, and of each block what it is owed and the places it goes round.
type model struct {
	t       *testing.T
	c       api.Config
	objects [][]byte
	sources [][]byte
	blocks  [][]modelBlock
}

type modelBlock struct {
	owed  int
	round []int
}

func (m *model) enqueue(object []byte) {
	m.sources = append(m.sources, sourcePackets(m.t, m.c, len(m.objects), object)...)
	m.objects = append(m.objects, object)
	var blocks []modelBlock
	for _, source := range cutUp(m.c, object) {
		blocks = append(blocks, modelBlock{0, roundOf(m.c, len(source))})
	}
	m.blocks = append(m.blocks, blocks)
}

func (m *model) next() ([]byte, bool) {
	if len(m.sources) > 0 {
		b := m.sources[0]
		m.sources = m.sources[1:]
		return b, true
	}
	for number, blocks := range m.blocks {
		for block := range blocks {
			if b := &blocks[block]; b.owed > 0 {
				place := b.round[0]
				b.owed, b.round = b.owed-1, append(b.round[1:], place)
				return dataPacket(m.t, m.c, number, m.objects[number], block, place), true
			}
		}
	}
	return nil, false
}

// hear hears asks that may be, of an object that there is.
func (m *model) hear(number int, asks []api.Lack) {
	for _, a := range asks {
		if b := &m.blocks[number][a.Block]; b.owed < a.Many {
			b.owed = a.Many
		}
	}
}

// anyAsks asks for some of the blocks of an object.
func anyAsks(seed *uint32, c api.Config, object []byte) (asks []api.Lack) {
	for _, most := range allLacks(c, object) {
		if draw(seed)%3 == 0 {
			asks = append(asks, api.Lack{Block: most.Block, Many: 1 + int(draw(seed))%most.Many})
		}
	}
	return asks
}

func TestSenderAgainstAModel(t *testing.T) {
	seed := uint32(7)
	for range 40 {
		for _, c := range bounds {
			m := &model{t: t, c: c}
			s := newSender(t, c)
			for range 60 {
				switch what := draw(&seed) % 8; {
				case what == 0 && len(m.objects) < api.MaxObjects:
					object := bytesOf(int(draw(&seed)) % (4*c.K*c.S + 1) % (api.MaxObject + 1))
					m.enqueue(object)
					if n, e := s.Enqueue(object); n != len(m.objects)-1 || e != nil {
						t.Fatalf("P5: %+v: %d, %v", c, n, e)
					}
				case what < 3 && len(m.objects) > 0:
					number := int(draw(&seed)) % len(m.objects)
					asks := anyAsks(&seed, c, m.objects[number])
					if len(asks) > 0 {
						m.hear(number, asks)
						wantHeard(t, s, askPacket(number, len(m.objects[number]), asks...))
					}
				case what == 3:
					b := anyBytes(&seed, 12)
					if e := s.Hear(b); e == nil {
						m.hear(int(b[1]), lacksOf(b))
					}
				default:
					if want, is := m.next(); is {
						wantNext(t, s, want)
					} else {
						wantNothing(t, s)
					}
				}
			}
			for want, is := m.next(); is; want, is = m.next() {
				wantNext(t, s, want)
			}
			wantNothing(t, s)
		}
	}
}

// lacksOf reads the asks of a packet that was heard.
func lacksOf(b []byte) (asks []api.Lack) {
	for at := 5; at < len(b); at += 2 {
		asks = append(asks, api.Lack{Block: int(b[at]), Many: int(b[at+1])})
	}
	return asks
}

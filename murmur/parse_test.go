package murmur_test

import (
	"bytes"
	"reflect"
	"slices"
	"testing"

	"murmur/api"
	"murmur/murmur"
)

var small = api.Config{K: 2, N: 4, S: 3}

func wantPacket(t *testing.T, c api.Config, b []byte, want api.Packet) {
	t.Helper()
	if got, e := murmur.Parse(c, b); e != nil || !reflect.DeepEqual(got, want) {
		t.Fatalf("P4: %+v: Parse(%v): %+v, %v, want %+v", c, b, got, e, want)
	}
}

func wantBad(t *testing.T, c api.Config, b []byte, want error, at int) {
	t.Helper()
	if got, e := murmur.Parse(c, b); !isBad(e, want, at) || !reflect.DeepEqual(got, api.Packet{}) {
		t.Fatalf("P4: %+v: Parse(%v): %+v, %#v, want %v at %d", c, b, got, e, want, at)
	}
}

func TestParseExamples(t *testing.T) {
	wantBad(t, small, []byte{1, 0, 0}, api.ErrShort, 3)
	wantBad(t, small, []byte{3}, api.ErrType, 0)
	wantBad(t, small, []byte{1, 16, 0, 4}, api.ErrField, 1)
	wantBad(t, small, []byte{1, 0, 0, 4, 1}, api.ErrField, 4)
	wantPacket(t, small, []byte{1, 0, 0, 4, 0, 1, 'd', 0, 0}, api.Packet{Kind: api.Data, Length: 4, Place: 1, Data: []byte{'d', 0, 0}})
	wantPacket(t, small, []byte{2, 0, 0, 4, 1, 0, 1}, api.Packet{Kind: api.Ask, Length: 4, Asks: []api.Lack{{Block: 0, Many: 1}}})
}

func TestParseOfAllSymbols(t *testing.T) {
	for _, c := range bounds {
		for _, length := range someLengths(c) {
			for block, source := range cutUp(c, bytesOf(length)) {
				for _, place := range roundOf(c, len(source)) {
					number := (length + place) % api.MaxObjects
					symbol := bytesOf(c.S)
					b := append([]byte{1, byte(number), 0, byte(length), byte(block), byte(place)}, symbol...)
					wantPacket(t, c, b, api.Packet{Kind: api.Data, Object: number, Length: length, Block: block, Place: place, Data: symbol})
				}
			}
		}
	}
}

func TestParseOfAsks(t *testing.T) {
	for _, c := range bounds {
		for _, length := range someLengths(c) {
			all := allLacks(c, bytesOf(length))
			wantPacket(t, c, askPacket(15, length, all...), api.Packet{Kind: api.Ask, Object: 15, Length: length, Asks: all})
			for _, a := range all {
				for many := 1; many <= a.Many; many++ {
					one := api.Lack{Block: a.Block, Many: many}
					wantPacket(t, c, askPacket(3, length, one), api.Packet{Kind: api.Ask, Object: 3, Length: length, Asks: []api.Lack{one}})
				}
			}
			if last := len(all) - 1; last > 0 {
				ends := []api.Lack{all[0], all[last]}
				wantPacket(t, c, askPacket(0, length, ends...), api.Packet{Kind: api.Ask, Length: length, Asks: ends})
			}
		}
	}
}

// number is a number of a packet: where it stands, in how many bytes, and which ones may stand there.
type number struct {
	at, size int
	wrong    error
	may      func(int) bool
}

func headNumbers() []number {
	return []number{
		{0, 1, api.ErrType, func(n int) bool { return n == 1 || n == 2 }},
		{1, 1, api.ErrField, func(n int) bool { return n <= 15 }},
		{2, 2, api.ErrField, func(n int) bool { return n <= 255 }},
	}
}

func dataNumbers(c api.Config, length, block int) []number {
	blocks := cutUp(c, bytesOf(length))
	places := roundOf(c, len(blocks[block]))
	return append(headNumbers(),
		number{4, 1, api.ErrField, func(n int) bool { return n < len(blocks) }},
		number{5, 1, api.ErrField, func(n int) bool { return slices.Contains(places, n) }})
}

func askNumbers(c api.Config, length int, asks []api.Lack) []number {
	blocks := cutUp(c, bytesOf(length))
	all := append(headNumbers(), number{4, 1, api.ErrField, func(n int) bool { return n > 0 && n <= len(blocks) }})
	for i, a := range asks {
		all = append(all,
			number{5 + 2*i, 1, api.ErrField, func(n int) bool { return n < len(blocks) && (i == 0 || n > asks[i-1].Block) }},
			number{6 + 2*i, 1, api.ErrField, func(n int) bool { return n > 0 && n <= len(blocks[a.Block]) }})
	}
	return all
}

// with is a copy of the packet with another number there.
func with(b []byte, n number, value int) []byte {
	b = bytes.Clone(b)
	for i := n.size - 1; i >= 0; i-- {
		b[n.at+i] = byte(value)
		value >>= 8
	}
	return b
}

// refuseNumbers puts each number that may not be at each place of a packet. What stands behind it does not matter.
func refuseNumbers(t *testing.T, c api.Config, b []byte, numbers []number) {
	t.Helper()
	for _, n := range numbers {
		for value := range 1 << (8 * n.size) {
			if n.may(value) || n.size == 2 && value > 600 && value%251 != 0 && value != 1<<16-1 {
				continue
			}
			wrong := with(b, n, value)
			wantBad(t, c, wrong, n.wrong, n.at)
			wantBad(t, c, wrong[:n.at+n.size], n.wrong, n.at)
			wantBad(t, c, append(wrong, 0), n.wrong, n.at)
			for i := n.at + n.size; i < len(b); i++ {
				wrong[i] = 255
			}
			wantBad(t, c, wrong, n.wrong, n.at)
			if n.size == 2 {
				wantBad(t, c, wrong[:n.at+1], api.ErrShort, n.at+1)
			}
		}
	}
	for length := range b {
		wantBad(t, c, b[:length:length], api.ErrShort, length)
		// What the packet's list has in its spare room is not of the packet.
		wantBad(t, c, b[:length], api.ErrShort, length)
	}
	for _, more := range [][]byte{{0}, {1, 0, 0, 0, 0, 0}, make([]byte, 600)} {
		wantBad(t, c, append(bytes.Clone(b), more...), api.ErrLong, len(b))
	}
}

func TestParseRefusesData(t *testing.T) {
	for _, c := range bounds {
		for _, length := range []int{0, c.S * c.K, c.S*c.K + 1, api.MaxObject} {
			object := bytesOf(length)
			blocks := cutUp(c, object)
			for _, block := range []int{0, len(blocks) - 1} {
				b := dataPacket(t, c, length%16, object, block, 0)
				refuseNumbers(t, c, b, dataNumbers(c, length, block))
			}
		}
	}
}

func TestParseRefusesAsks(t *testing.T) {
	for _, c := range []api.Config{small, {K: 8, N: 16, S: 8}, {K: 8, N: 8, S: 2}, {K: 3, N: 3, S: 5}} {
		for _, length := range []int{0, c.S * c.K, c.S*c.K + 1, 3*c.S*c.K - 1} {
			all := allLacks(c, bytesOf(length))
			refuseNumbers(t, c, askPacket(length%16, length, all...), askNumbers(c, length, all))
			last := all[len(all)-1:]
			refuseNumbers(t, c, askPacket(0, length, last...), askNumbers(c, length, last))
		}
	}
}

func TestParseOfAsksAtTheirBounds(t *testing.T) {
	c := api.Config{K: 1, N: 1, S: 1}
	all := allLacks(c, bytesOf(api.MaxObject))
	if len(all) != 255 {
		t.Fatalf("%d blocks", len(all))
	}
	b := askPacket(0, api.MaxObject, all...)
	wantPacket(t, c, b, api.Packet{Kind: api.Ask, Length: 255, Asks: all})
	wantBad(t, c, append(b, 255, 1), api.ErrLong, len(b))
	wantBad(t, c, b[:len(b)-1], api.ErrShort, len(b)-1)
	// A block at the end leaves none for those that are to follow it, but those ahead may be.
	wantBad(t, small, []byte{2, 0, 0, 7, 2, 1, 1}, api.ErrShort, 7)
	for block := range 256 {
		wantBad(t, small, []byte{2, 0, 0, 7, 2, 1, 1, byte(block)}, api.ErrField, 7)
	}
}

func TestParseRefusesConfigs(t *testing.T) {
	for _, c := range noConfigs {
		for _, b := range [][]byte{nil, {3}, {1, 0, 0, 0, 0, 0, 0}, {2, 0, 0, 0, 1, 0, 1}, {1, 16}, make([]byte, 600)} {
			if got, e := murmur.Parse(c, b); e != api.ErrConfig || !reflect.DeepEqual(got, api.Packet{}) {
				t.Errorf("P4: %+v: Parse(%v): %+v, %v", c, b, got, e)
			}
		}
	}
	for k := 1; k <= api.MaxK; k++ {
		for n := k; n <= api.MaxN; n++ {
			for s := 1; s <= api.MaxS; s++ {
				c := api.Config{K: k, N: n, S: s}
				b := dataPacket(t, c, 0, nil, 0, 0)
				wantPacket(t, c, b, api.Packet{Kind: api.Data, Data: make([]byte, s)})
			}
		}
	}
}

func TestParseSharesNothing(t *testing.T) {
	for _, packet := range [][]byte{{1, 2, 0, 7, 1, 0, 4, 5, 6}, {2, 2, 0, 7, 2, 0, 2, 1, 1}} {
		whole := append(bytes.Clone(packet), 77, 78, 79, 80)
		before := bytes.Clone(whole)
		first, _ := murmur.Parse(small, whole[:len(packet)])
		second, _ := murmur.Parse(small, whole[:len(packet)])
		want, _ := murmur.Parse(small, packet)
		scribble(first.Data)
		for i := range first.Asks[:cap(first.Asks)] {
			first.Asks[:cap(first.Asks)][i] = api.Lack{Block: -1, Many: -1}
		}
		if !bytes.Equal(whole, before) {
			t.Errorf("P2: the packet was written into: %v", whole)
		}
		scribble(whole)
		if !reflect.DeepEqual(second, want) {
			t.Errorf("P2: the answer shares memory: %+v, want %+v", second, want)
		}
	}
}

// anyBytes makes bytes that look like packets at the front more often than not.
func anyBytes(seed *uint32, longest int) []byte {
	b := make([]byte, int(draw(seed))%(longest+1))
	for i := range b {
		b[i] = byte(draw(seed))
		if draw(seed)%4 > 0 {
			b[i] &= 3
		}
	}
	return b
}

// draw is the next one of a row of numbers that is the same in each run.
func draw(seed *uint32) uint32 {
	*seed = *seed*1664525 + 1013904223
	return *seed >> 8
}

func TestParseOfAnyBytes(t *testing.T) {
	seed := uint32(1)
	for range 200000 {
		c := bounds[draw(&seed)%uint32(len(bounds))]
		b := anyBytes(&seed, 24)
		before := bytes.Clone(b)
		p, e := murmur.Parse(c, b)
		if bad, is := e.(*api.Bad); e != nil && (!is || bad.At < 0 || bad.At > len(b) || !reflect.DeepEqual(p, api.Packet{})) {
			t.Fatalf("P1, P4: Parse(%v): %+v, %#v", b, p, e)
		}
		if e == nil && (p.Kind == api.Data) == (p.Asks != nil) || !bytes.Equal(b, before) {
			t.Fatalf("P4: Parse(%v): %+v", before, p)
		}
	}
}

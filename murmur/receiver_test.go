package murmur_test

import (
	"bytes"
	"slices"
	"testing"

	"murmur/api"
	"murmur/murmur"
)

func newReceiver(t *testing.T, c api.Config) *murmur.Receiver {
	t.Helper()
	r, e := murmur.NewReceiver(c)
	if r == nil || e != nil {
		t.Fatalf("P7: NewReceiver(%+v): %v", c, e)
	}
	return r
}

func tell(t *testing.T, r *murmur.Receiver, packets ...[]byte) {
	t.Helper()
	for _, b := range packets {
		if e := r.Hear(b); e != nil {
			t.Fatalf("P7: Hear(%v): %v", b, e)
		}
	}
}

// wantAsk: want is nil if nothing is known.
func wantAsk(t *testing.T, r *murmur.Receiver, want []byte) {
	t.Helper()
	for range 2 {
		if b, e := r.Ask(); e != nil || !bytes.Equal(b, want) || (b == nil) != (want == nil) {
			t.Fatalf("P8: Ask: %v, %v, want %v", b, e, want)
		}
	}
}

func wantTaken(t *testing.T, r *murmur.Receiver, want ...api.Object) {
	t.Helper()
	if got, e := r.Taken(); e != nil || !slices.EqualFunc(got, want, sameObject) {
		t.Fatalf("P8: Taken: %v, %v, want %v", got, e, want)
	}
	if got, e := r.Taken(); e != nil || len(got) != 0 {
		t.Fatalf("P8: Taken, told already: %v, %v", got, e)
	}
}

func sameObject(a, b api.Object) bool { return a.Number == b.Number && bytes.Equal(a.Bytes, b.Bytes) }

func mix[T any](seed *uint32, list []T) {
	for i := len(list) - 1; i > 0; i-- {
		j := int(draw(seed)) % (i + 1)
		list[i], list[j] = list[j], list[i]
	}
}

// spot is where a symbol of an object stands.
type spot struct{ block, place int }

// enough is k symbols of each block of an object, drawn from all it has, in any order.
func enough(seed *uint32, c api.Config, object []byte) (spots []spot) {
	for block, source := range cutUp(c, object) {
		round := roundOf(c, len(source))
		mix(seed, round)
		for _, place := range round[:len(source)] {
			spots = append(spots, spot{block, place})
		}
	}
	mix(seed, spots)
	return spots
}

// without is what is lacking still when one more symbol of a block is known.
func without(lacks []api.Lack, block int) (left []api.Lack) {
	for _, l := range lacks {
		if l.Block == block {
			l.Many--
		}
		if l.Many > 0 {
			left = append(left, l)
		}
	}
	return left
}

func TestReceiverExamples(t *testing.T) {
	s, r := newSender(t, small, []byte("abcd")), newReceiver(t, small)
	s.Next()
	b, _ := s.Next()
	tell(t, r, b)
	wantAsk(t, r, []byte{2, 0, 0, 4, 1, 0, 1})
	ask, _ := r.Ask()
	wantHeard(t, s, ask)
	b, _ = s.Next()
	wantTaken(t, r)
	tell(t, r, b)
	wantTaken(t, r, api.Object{Number: 0, Bytes: []byte("abcd")})
	wantAsk(t, r, nil)
}

func TestNewReceiverRefuses(t *testing.T) {
	for _, c := range noConfigs {
		if r, e := murmur.NewReceiver(c); r != nil || e != api.ErrConfig {
			t.Errorf("P7: NewReceiver(%+v): %v, %v", c, r, e)
		}
	}
}

func TestAReceiverThatHeardNothing(t *testing.T) {
	for _, c := range bounds {
		r := newReceiver(t, c)
		wantAsk(t, r, nil)
		wantTaken(t, r)
	}
}

func TestAnySymbolsMakeAnObjectWhole(t *testing.T) {
	seed := uint32(3)
	for _, c := range bounds {
		for _, length := range someLengths(c) {
			object, number := bytesOf(length), length%api.MaxObjects
			r, lacks := newReceiver(t, c), allLacks(c, object)
			for _, at := range enough(&seed, c, object) {
				wantTaken(t, r)
				tell(t, r, dataPacket(t, c, number, object, at.block, at.place))
				lacks = without(lacks, at.block)
				if len(lacks) > 0 {
					wantAsk(t, r, askPacket(number, length, lacks...))
				}
			}
			wantAsk(t, r, nil)
			wantTaken(t, r, api.Object{Number: number, Bytes: object})
		}
	}
}

func TestTheLastBlockMayBeAnyOne(t *testing.T) {
	object := []byte("abcdefghijklm")
	packets := sourcePackets(t, small, 6, object)
	for last := range packets {
		r := newReceiver(t, small)
		tell(t, r, packets[:last]...)
		tell(t, r, packets[last+1:]...)
		wantTaken(t, r)
		wantAsk(t, r, askPacket(6, 13, api.Lack{Block: last / 2, Many: 1}))
		tell(t, r, packets[last])
		wantTaken(t, r, api.Object{Number: 6, Bytes: object})
	}
}

func TestSymbolsThatChangeNothing(t *testing.T) {
	c := api.Config{K: 3, N: 6, S: 2}
	object := []byte("abcdefgh")
	r := newReceiver(t, c)
	tell(t, r, dataPacket(t, c, 1, object, 0, 1), dataPacket(t, c, 1, object, 0, 4))
	lacks := []api.Lack{{Block: 0, Many: 1}, {Block: 1, Many: 1}}
	// Of a place that is known, the first symbol counts.
	for _, place := range []byte{1, 4} {
		tell(t, r, []byte{1, 1, 0, 8, 0, place, 99, 99}, dataPacket(t, c, 1, object, 0, int(place)))
		wantAsk(t, r, askPacket(1, 8, lacks...))
	}
	tell(t, r, dataPacket(t, c, 1, object, 0, 5))
	// Of a block that has enough, no other symbol counts.
	for _, place := range []byte{0, 1, 2, 3, 4, 5} {
		tell(t, r, []byte{1, 1, 0, 8, 0, place, 99, 99})
		wantAsk(t, r, askPacket(1, 8, lacks[1:]...))
	}
	wantTaken(t, r)
	tell(t, r, dataPacket(t, c, 1, object, 1, 3))
	wantTaken(t, r, api.Object{Number: 1, Bytes: object})
}

func TestWhatASymbolIsFilledUpWithIsNotOfTheObject(t *testing.T) {
	r := newReceiver(t, small)
	tell(t, r, []byte{1, 3, 0, 0, 0, 0, 7, 8, 9}, []byte{1, 4, 0, 1, 0, 0, 7, 8, 9}, []byte{1, 5, 0, 3, 0, 0, 7, 8, 9})
	wantTaken(t, r, api.Object{Number: 3}, api.Object{Number: 4, Bytes: []byte{7}}, api.Object{Number: 5, Bytes: []byte{7, 8, 9}})
}

func TestAnObjectThatWasTaken(t *testing.T) {
	r := newReceiver(t, small)
	packets := sourcePackets(t, small, 2, []byte("abcd"))
	tell(t, r, packets...)
	again := func() {
		t.Helper()
		tell(t, r, packets...)
		tell(t, r, dataPacket(t, small, 2, []byte("abcd"), 0, 3))
		for _, length := range []int{0, 3, 5, 13, api.MaxObject} {
			tell(t, r, sourcePackets(t, small, 2, bytesOf(length))...)
		}
		if e := r.Hear([]byte{1, 2, 0, 4, 0, 0, 1, 2}); !isBad(e, api.ErrShort, 8) {
			t.Errorf("P7: no packet, of an object that was taken: %v", e)
		}
	}
	again()
	wantTaken(t, r, api.Object{Number: 2, Bytes: []byte("abcd")})
	again()
	wantTaken(t, r)
	wantAsk(t, r, nil)
	for number := 8; number < 8+api.MaxOpen; number++ {
		tell(t, r, []byte{1, byte(number), 0, 4, 0, 0, 1, 2, 3})
	}
	again()
	wantTaken(t, r)
	wantAsk(t, r, askPacket(8, 4, api.Lack{Block: 0, Many: 1}))
}

// open makes a receiver that has taken object 0, and knows the objects 3, 6, 9 and 12, of 13 bytes, by one symbol each.
func open(t *testing.T) *murmur.Receiver {
	t.Helper()
	r := newReceiver(t, small)
	tell(t, r, []byte{1, 0, 0, 2, 0, 0, 'h', 'i', 0})
	wantTaken(t, r, api.Object{Number: 0, Bytes: []byte("hi")})
	for _, number := range []int{9, 3, 12, 6} {
		tell(t, r, dataPacket(t, small, number, bytesOf(13), 1, 3))
	}
	return r
}

var openLacks = []api.Lack{{Block: 0, Many: 2}, {Block: 1, Many: 1}, {Block: 2, Many: 1}}

func TestReceiverRefusesPackets(t *testing.T) {
	r := open(t)
	for _, w := range []struct {
		packet []byte
		want   error
		at     int
	}{
		{nil, api.ErrShort, 0},
		{[]byte{0}, api.ErrType, 0},
		{[]byte{3, 99, 99, 99}, api.ErrType, 0},
		{[]byte{1, 16, 0, 4, 0, 0, 1, 2, 3}, api.ErrField, 1},
		{[]byte{1, 3, 1, 0, 0, 0, 1, 2, 3}, api.ErrField, 2},
		{[]byte{1, 3, 0, 13, 3, 0, 1, 2, 3}, api.ErrField, 4},
		{[]byte{1, 3, 0, 13, 2, 1, 1, 2, 3}, api.ErrField, 5},
		{[]byte{1, 3, 0, 13, 0, 4, 1, 2, 3}, api.ErrField, 5},
		{[]byte{1, 3, 0, 13, 0, 0, 1, 2}, api.ErrShort, 8},
		{[]byte{1, 3, 0, 13, 0, 0, 1, 2, 3, 4}, api.ErrLong, 9},
		{[]byte{2, 3, 0, 13, 0}, api.ErrField, 4},
		{[]byte{2, 3, 0, 13, 1, 0}, api.ErrShort, 6},
		{[]byte{2, 3, 0, 13, 1, 0, 2, 0}, api.ErrLong, 7},
		// What is no packet is told ahead of the length, and of the room there is.
		{[]byte{1, 3, 0, 4, 1, 0, 1, 2, 3}, api.ErrField, 4},
		{[]byte{1, 3, 0, 4, 0, 0, 1, 2, 3, 4}, api.ErrLong, 9},
		{[]byte{1, 1, 0, 4, 0, 0, 1, 2}, api.ErrShort, 8},
		{[]byte{1, 1, 0, 4, 0, 2, 1, 2, 3, 4}, api.ErrLong, 9},
		// The length of an object that is known is told ahead of the room there is.
		{[]byte{1, 3, 0, 12, 0, 0, 1, 2, 3}, api.ErrField, 2},
		{[]byte{1, 9, 0, 14, 1, 3, 1, 2, 3}, api.ErrField, 2},
		{[]byte{1, 12, 0, 0, 0, 0, 1, 2, 3}, api.ErrField, 2},
		{[]byte{1, 6, 0, 255, 42, 3, 1, 2, 3}, api.ErrField, 2},
	} {
		if e := r.Hear(w.packet); !isBad(e, w.want, w.at) {
			t.Errorf("P7: Hear(%v): %#v, want %v at %d", w.packet, e, w.want, w.at)
		}
		wantAsk(t, r, askPacket(3, 13, openLacks...))
		wantTaken(t, r)
	}
	wantFull(t, r)
	finish(t, r, 3, 12, 6, 9)
}

// finish tells what is lacking of the objects that open left open, one by one.
func finish(t *testing.T, r *murmur.Receiver, numbers ...int) {
	t.Helper()
	for _, number := range numbers {
		object := bytesOf(13)
		tell(t, r, sourcePackets(t, small, number, object)...)
		wantTaken(t, r, api.Object{Number: number, Bytes: object})
	}
	wantAsk(t, r, nil)
}

// wantFull hears of each object that is not known and was not taken, of one, too, that a single symbol makes whole.
func wantFull(t *testing.T, r *murmur.Receiver) {
	t.Helper()
	for _, number := range []byte{1, 2, 4, 5, 7, 8, 10, 11, 13, 14, 15} {
		for _, length := range []byte{0, 3, 13} {
			if e := r.Hear([]byte{1, number, 0, length, 0, 0, 1, 2, 3}); e != api.ErrFull {
				t.Errorf("P7: a fifth object: %v", e)
			}
		}
	}
	wantTaken(t, r)
}

func TestFourObjectsAtATime(t *testing.T) {
	r := open(t)
	wantFull(t, r)
	wantAsk(t, r, askPacket(3, 13, openLacks...))
	// The four go on, and what is no news of any object is heard.
	tell(t, r, dataPacket(t, small, 3, bytesOf(13), 1, 3), dataPacket(t, small, 9, bytesOf(13), 0, 2))
	tell(t, r, []byte{1, 0, 0, 2, 0, 0, 1, 2, 3}, askPacket(1, 4, api.Lack{Block: 0, Many: 2}))
	wantFull(t, r)
	// With each one that is whole there is room for one more.
	tell(t, r, sourcePackets(t, small, 12, bytesOf(13))...)
	wantTaken(t, r, api.Object{Number: 12, Bytes: bytesOf(13)})
	tell(t, r, []byte{1, 1, 0, 0, 0, 0, 1, 2, 3}, []byte{1, 15, 0, 3, 0, 2, 1, 2, 3})
	wantTaken(t, r, api.Object{Number: 1}, api.Object{Number: 15, Bytes: []byte{1, 2, 3}})
	tell(t, r, dataPacket(t, small, 14, bytesOf(13), 0, 0))
	if e := r.Hear([]byte{1, 2, 0, 0, 0, 0, 1, 2, 3}); e != api.ErrFull {
		t.Errorf("P7: %v", e)
	}
	finish(t, r, 9, 14, 6, 3)
}

func TestAsksAreHeardWithoutAnythingDone(t *testing.T) {
	r := newReceiver(t, small)
	tell(t, r, askPacket(5, 13, openLacks...))
	wantAsk(t, r, nil)
	r = open(t)
	for number := range api.MaxObjects {
		for _, length := range []int{0, 13, api.MaxObject} {
			tell(t, r, askPacket(number, length, api.Lack{Block: 0, Many: 1}))
			wantAsk(t, r, askPacket(3, 13, openLacks...))
		}
	}
	wantTaken(t, r)
	finish(t, r, 12, 9, 6, 3)
}

func TestAskOfTheObjectWithTheLeastNumber(t *testing.T) {
	r := open(t)
	for _, number := range []int{3, 6, 9, 12} {
		object := bytesOf(13)
		wantAsk(t, r, askPacket(number, 13, openLacks...))
		tell(t, r, dataPacket(t, small, number, object, 2, 0))
		wantAsk(t, r, askPacket(number, 13, openLacks[:2]...))
		tell(t, r, dataPacket(t, small, number, object, 0, 3))
		wantAsk(t, r, askPacket(number, 13, api.Lack{Block: 0, Many: 1}, api.Lack{Block: 1, Many: 1}))
		tell(t, r, dataPacket(t, small, number, object, 1, 0), dataPacket(t, small, number, object, 0, 1))
	}
	wantAsk(t, r, nil)
}

func TestAskOfAllBlocksThatLackSymbols(t *testing.T) {
	c := api.Config{K: 1, N: 2, S: 1}
	object := bytesOf(api.MaxObject)
	for _, known := range []int{0, 100, 254} {
		r := newReceiver(t, c)
		tell(t, r, dataPacket(t, c, 15, object, known, 1))
		var lacks []api.Lack
		for block := range object {
			if block != known {
				lacks = append(lacks, api.Lack{Block: block, Many: 1})
			}
		}
		wantAsk(t, r, askPacket(15, api.MaxObject, lacks...))
	}
}

func TestTakenInTheOrderInWhichTheyWereTaken(t *testing.T) {
	r := newReceiver(t, small)
	rows := map[int][][]byte{}
	for _, number := range []int{7, 2, 11} {
		rows[number] = sourcePackets(t, small, number, bytesOf(number))
	}
	tell(t, r, rows[7][0])
	tell(t, r, rows[2]...)
	tell(t, r, rows[11]...)
	tell(t, r, rows[7][1:]...)
	tell(t, r, []byte{1, 0, 0, 0, 0, 2, 1, 2, 3})
	wantTaken(t, r, api.Object{Number: 2, Bytes: bytesOf(2)}, api.Object{Number: 11, Bytes: bytesOf(11)},
		api.Object{Number: 7, Bytes: bytesOf(7)}, api.Object{Number: 0})
	tell(t, r, []byte{1, 15, 0, 0, 0, 0, 1, 2, 3}, []byte{1, 1, 0, 0, 0, 3, 1, 2, 3})
	wantTaken(t, r, api.Object{Number: 15}, api.Object{Number: 1})
}

func TestAllObjectsThereMayBe(t *testing.T) {
	for _, c := range bounds {
		r := newReceiver(t, c)
		var want []api.Object
		for turn := range api.MaxObjects {
			number := turn * 7 % api.MaxObjects
			object := bytesOf(turn * 17)
			tell(t, r, sourcePackets(t, c, number, object)...)
			want = append(want, api.Object{Number: number, Bytes: object})
		}
		wantTaken(t, r, want...)
		wantAsk(t, r, nil)
	}
}

// wantClosed makes every call, with right packets and wrong ones.
func wantClosed(t *testing.T, r *murmur.Receiver) {
	t.Helper()
	packets := [][]byte{nil, {}, {3}, {1, 16}, {2, 3, 0, 13, 1, 0, 1}, {1, 3, 0, 12, 0, 0, 1, 2, 3}, {1, 0, 0, 2, 0, 0, 1, 2, 3},
		{1, 1, 0, 0, 0, 0, 1, 2, 3}, {1, 3, 0, 13, 0, 0, 1, 2, 3}, make([]byte, 600)}
	for range 3 {
		for _, b := range packets {
			if e := r.Hear(b); e != api.ErrClosed {
				t.Errorf("P7: closed: Hear(%v): %v", b, e)
			}
		}
		if b, e := r.Ask(); b != nil || e != api.ErrClosed {
			t.Errorf("P8: closed: Ask: %v, %v", b, e)
		}
		if l, e := r.Taken(); l != nil || e != api.ErrClosed {
			t.Errorf("P8: closed: Taken: %v, %v", l, e)
		}
		if e := r.Close(); e != api.ErrClosed {
			t.Errorf("P8: closed: Close: %v", e)
		}
	}
}

func TestAReceiverThatIsClosed(t *testing.T) {
	untold := open(t)
	tell(t, untold, sourcePackets(t, small, 3, bytesOf(13))...)
	for _, r := range []*murmur.Receiver{newReceiver(t, small), open(t), untold} {
		if e := r.Close(); e != nil {
			t.Errorf("P8: Close: %v", e)
		}
		wantClosed(t, r)
	}
}

func TestReceiverKeepsNothingThatIsHandedIn(t *testing.T) {
	object := []byte("abcdefg")
	r := newReceiver(t, small)
	for _, packet := range sourcePackets(t, small, 4, object) {
		whole := append(packet, 77, 78, 79)
		before := bytes.Clone(whole)
		tell(t, r, whole[:len(packet)])
		if !bytes.Equal(whole, before) {
			t.Errorf("P2: the packet was written into")
		}
		scribble(whole)
	}
	wantTaken(t, r, api.Object{Number: 4, Bytes: object})
}

func TestWhatAReceiverAnswersSharesNothing(t *testing.T) {
	r := open(t)
	first, _ := r.Ask()
	second, _ := r.Ask()
	want := bytes.Clone(second)
	scribble(first)
	if !bytes.Equal(second, want) {
		t.Errorf("P2: two asks share memory")
	}
	wantAsk(t, r, want)
	tell(t, r, sourcePackets(t, small, 3, bytesOf(13))...)
	tell(t, r, sourcePackets(t, small, 6, bytesOf(13))...)
	two, _ := r.Taken()
	tell(t, r, sourcePackets(t, small, 9, bytesOf(13))...)
	one, _ := r.Taken()
	for _, o := range append(slices.Clone(two), one...) {
		if !bytes.Equal(o.Bytes, bytesOf(13)) {
			t.Errorf("P2: object %d shares memory with one ahead", o.Number)
		}
		scribble(o.Bytes)
	}
	room := two[:cap(two)]
	for i := range room {
		room[i] = api.Object{Number: -1}
	}
	if one[0].Number != 9 {
		t.Errorf("P2: two lists share memory")
	}
	tell(t, r, dataPacket(t, small, 12, bytesOf(13), 0, 0))
	finish(t, r, 12)
}

func TestTwoReceiversAreTwo(t *testing.T) {
	one, two := open(t), newReceiver(t, small)
	wantAsk(t, two, nil)
	tell(t, two, []byte{1, 3, 0, 4, 0, 0, 1, 2, 3}, []byte{1, 0, 0, 4, 0, 0, 1, 2, 3})
	wantAsk(t, two, askPacket(0, 4, api.Lack{Block: 0, Many: 1}))
	one.Close()
	tell(t, two, []byte{1, 0, 0, 4, 0, 1, 4, 5, 6})
	wantTaken(t, two, api.Object{Number: 0, Bytes: []byte{1, 2, 3, 4}})
	wantClosed(t, one)
}

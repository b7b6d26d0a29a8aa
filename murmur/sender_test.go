package murmur_test

import (
	"bytes"
	"testing"

	"murmur/api"
	"murmur/murmur"
)

func newSender(t *testing.T, c api.Config, objects ...[]byte) *murmur.Sender {
	t.Helper()
	s, e := murmur.NewSender(c)
	if s == nil || e != nil {
		t.Fatalf("P5: NewSender(%+v): %v", c, e)
	}
	for number, object := range objects {
		if got, e := s.Enqueue(object); got != number || e != nil {
			t.Fatalf("P5: Enqueue of object %d: %d, %v", number, got, e)
		}
	}
	return s
}

func wantNext(t *testing.T, s *murmur.Sender, want ...[]byte) {
	t.Helper()
	for i, w := range want {
		if b, is := s.Next(); !is || !bytes.Equal(b, w) {
			t.Fatalf("P5: packet %d: %v, %v, want %v", i, b, is, w)
		}
	}
}

func wantNothing(t *testing.T, s *murmur.Sender) {
	t.Helper()
	for range 2 {
		if b, is := s.Next(); b != nil || is {
			t.Fatalf("P5: %v, %v, want nothing", b, is)
		}
	}
}

// sendAll goes on until nothing is to be sent.
func sendAll(s *murmur.Sender) (packets [][]byte) {
	for b, is := s.Next(); is; b, is = s.Next() {
		packets = append(packets, b)
	}
	return packets
}

func wantHeard(t *testing.T, s *murmur.Sender, b []byte) {
	t.Helper()
	if e := s.Hear(b); e != nil {
		t.Fatalf("P6: Hear(%v): %v", b, e)
	}
}

func sourcePackets(t *testing.T, c api.Config, number int, object []byte) (packets [][]byte) {
	t.Helper()
	for block, source := range cutUp(c, object) {
		for place, symbol := range source {
			head := []byte{1, byte(number), 0, byte(len(object)), byte(block), byte(place)}
			packets = append(packets, append(head, symbol...))
		}
	}
	return packets
}

func TestSenderExamples(t *testing.T) {
	s := newSender(t, small, []byte("abcd"))
	wantNext(t, s, []byte{1, 0, 0, 4, 0, 0, 'a', 'b', 'c'}, []byte{1, 0, 0, 4, 0, 1, 'd', 0, 0})
	wantNothing(t, s)
	wantHeard(t, s, []byte{2, 0, 0, 4, 1, 0, 1})
	repair, _ := murmur.Symbol([][]byte{[]byte("abc"), {'d', 0, 0}}, 2)
	wantNext(t, s, append([]byte{1, 0, 0, 4, 0, 2}, repair...))
	wantNothing(t, s)
}

func TestNewSenderRefuses(t *testing.T) {
	for _, c := range noConfigs {
		if s, e := murmur.NewSender(c); s != nil || e != api.ErrConfig {
			t.Errorf("P5: NewSender(%+v): %v, %v", c, s, e)
		}
	}
}

func TestASenderWithoutObjects(t *testing.T) {
	for _, c := range bounds {
		s := newSender(t, c)
		wantNothing(t, s)
		for number := range api.MaxObjects {
			if e := s.Hear(askPacket(number, 0, api.Lack{Block: 0, Many: 1})); !isBad(e, api.ErrField, 1) {
				t.Errorf("P6: object %d: %v", number, e)
			}
		}
		wantNothing(t, s)
	}
}

func TestSourceSymbolsInOrder(t *testing.T) {
	for _, c := range bounds {
		for _, length := range someLengths(c) {
			objects := [][]byte{bytesOf(length), {}, bytesOf(c.S + 1)}
			s := newSender(t, c, objects...)
			for number, object := range objects {
				wantNext(t, s, sourcePackets(t, c, number, object)...)
			}
			wantNothing(t, s)
			late := bytesOf(3)
			s.Enqueue(late)
			wantNext(t, s, sourcePackets(t, c, len(objects), late)...)
			wantNothing(t, s)
		}
	}
}

func TestPlacesGoRound(t *testing.T) {
	for _, c := range bounds {
		for _, length := range someLengths(c) {
			object := bytesOf(length)
			s := newSender(t, c, object)
			sendAll(s)
			for block, source := range cutUp(c, object) {
				if block > 2 && block < len(cutUp(c, object))-1 {
					continue
				}
				round := roundOf(c, len(source))
				for turn := range 3*len(round) + 1 {
					wantHeard(t, s, askPacket(0, length, api.Lack{Block: block, Many: 1}))
					wantNext(t, s, dataPacket(t, c, 0, object, block, round[turn%len(round)]))
					wantNothing(t, s)
				}
			}
		}
	}
}

func TestEachBlockGoesOnWhereItWas(t *testing.T) {
	object := []byte("abcdefgh")
	s := newSender(t, small, object)
	sendAll(s)
	places := map[int][]int{0: {2, 3, 0, 1}, 1: {2, 3, 0}}
	turns := map[int]int{}
	first, second := api.Lack{Block: 0, Many: 1}, api.Lack{Block: 1, Many: 1}
	both := []api.Lack{{Block: 0, Many: 2}, second}
	for _, asks := range [][]api.Lack{{first}, {second}, both, {second}, both} {
		wantHeard(t, s, askPacket(0, len(object), asks...))
		for _, a := range asks {
			for range a.Many {
				round := places[a.Block]
				wantNext(t, s, dataPacket(t, small, 0, object, a.Block, round[turns[a.Block]%len(round)]))
				turns[a.Block]++
			}
		}
		wantNothing(t, s)
	}
}

func TestWhatIsOwedIsTheMost(t *testing.T) {
	c := api.Config{K: 4, N: 8, S: 1}
	object := []byte("abcd")
	for _, w := range []struct {
		asked []int
		owed  int
	}{{[]int{1}, 1}, {[]int{4}, 4}, {[]int{1, 1, 1}, 1}, {[]int{1, 3, 2}, 3}, {[]int{4, 1}, 4}, {[]int{1, 4}, 4}} {
		s := newSender(t, c, object)
		sendAll(s)
		for _, many := range w.asked {
			wantHeard(t, s, askPacket(0, 4, api.Lack{Block: 0, Many: many}))
		}
		if got := len(sendAll(s)); got != w.owed {
			t.Errorf("P6: asked for %v: %d symbols, want %d", w.asked, got, w.owed)
		}
	}
	// What was sent is not owed any more, so the most is held against what is left.
	s := newSender(t, c, object)
	sendAll(s)
	wantHeard(t, s, askPacket(0, 4, api.Lack{Block: 0, Many: 4}))
	s.Next()
	s.Next()
	wantHeard(t, s, askPacket(0, 4, api.Lack{Block: 0, Many: 3}))
	if got := len(sendAll(s)); got != 3 {
		t.Errorf("P6: %d symbols, want 3", got)
	}
}

func TestOwedByObjectsThenByBlocks(t *testing.T) {
	one, two := []byte("abcdefg"), []byte("hijklmno")
	s := newSender(t, small, one, two)
	wantHeard(t, s, askPacket(1, 8, api.Lack{Block: 1, Many: 1}))
	wantHeard(t, s, askPacket(0, 7, api.Lack{Block: 1, Many: 1}))
	// Source symbols go first, and are not counted against what is owed.
	wantNext(t, s, sourcePackets(t, small, 0, one)...)
	wantNext(t, s, sourcePackets(t, small, 1, two)...)
	wantHeard(t, s, askPacket(1, 8, api.Lack{Block: 0, Many: 2}))
	wantNext(t, s, dataPacket(t, small, 0, one, 1, 2), dataPacket(t, small, 1, two, 0, 2))
	// A block ahead goes first, though another one was begun; and a new object ahead of all.
	wantHeard(t, s, askPacket(0, 7, api.Lack{Block: 0, Many: 1}))
	wantNext(t, s, dataPacket(t, small, 0, one, 0, 2))
	s.Enqueue(nil)
	wantNext(t, s, []byte{1, 2, 0, 0, 0, 0, 0, 0, 0})
	wantNext(t, s, dataPacket(t, small, 1, two, 0, 3), dataPacket(t, small, 1, two, 1, 2))
	wantNothing(t, s)
}

func TestEnqueueAtItsBounds(t *testing.T) {
	for _, c := range bounds {
		s := newSender(t, c)
		refuse := func(length int, want error) {
			t.Helper()
			if n, e := s.Enqueue(make([]byte, length)); n != 0 || e != want {
				t.Errorf("P5: an object of %d bytes: %d, %v, want %v", length, n, e, want)
			}
		}
		var want [][]byte
		for number := range api.MaxObjects {
			refuse(256, api.ErrArg)
			refuse(100000, api.ErrArg)
			object := bytesOf(api.MaxObject - number%2)
			if n, e := s.Enqueue(object); n != number || e != nil {
				t.Errorf("P5: object %d: %d, %v", number, n, e)
			}
			want = append(want, sourcePackets(t, c, number, object)...)
		}
		refuse(0, api.ErrFull)
		refuse(255, api.ErrFull)
		refuse(256, api.ErrArg)
		wantNext(t, s, want...)
		wantNothing(t, s)
		refuse(0, api.ErrFull)
		wantNothing(t, s)
	}
}

func TestSenderRefusesPackets(t *testing.T) {
	one, two := []byte("abcd"), []byte("abcdefg")
	s := newSender(t, small, one, two)
	sendAll(s)
	for _, w := range []struct {
		packet []byte
		want   error
		at     int
	}{
		{nil, api.ErrShort, 0},
		{[]byte{3, 9, 9, 9}, api.ErrType, 0},
		{[]byte{2, 16, 0, 4, 1, 0, 1}, api.ErrField, 1},
		{[]byte{2, 9, 1, 0, 1, 0, 1}, api.ErrField, 2},
		{[]byte{2, 9, 0, 4, 1, 1, 1}, api.ErrField, 5},
		{[]byte{2, 9, 0, 4, 1, 0, 3}, api.ErrField, 6},
		{[]byte{2, 9, 0, 4, 1, 0}, api.ErrShort, 6},
		{[]byte{2, 9, 0, 4, 1, 0, 1, 0}, api.ErrLong, 7},
		{[]byte{1, 9, 0, 4, 0, 0, 1, 2, 3, 4}, api.ErrLong, 9},
		{[]byte{2, 2, 0, 4, 1, 0, 1}, api.ErrField, 1},
		{[]byte{2, 15, 0, 0, 1, 0, 1}, api.ErrField, 1},
		{[]byte{1, 2, 0, 4, 0, 0, 1, 2, 3}, api.ErrField, 1},
		{[]byte{2, 0, 0, 3, 1, 0, 1}, api.ErrField, 2},
		{[]byte{2, 0, 0, 5, 1, 0, 1}, api.ErrField, 2},
		{[]byte{2, 1, 0, 4, 1, 0, 1}, api.ErrField, 2},
		{[]byte{2, 1, 0, 8, 2, 0, 2, 1, 1}, api.ErrField, 2},
		{[]byte{1, 0, 0, 5, 0, 0, 1, 2, 3}, api.ErrField, 2},
		{[]byte{1, 0, 0, 4, 0, 0, 'a', 'b', 'c'}, api.ErrType, 0},
		{[]byte{1, 1, 0, 7, 1, 3, 1, 2, 3}, api.ErrType, 0},
		{[]byte{2, 1, 0, 7, 2, 0, 1, 1, 2}, api.ErrField, 8},
	} {
		if e := s.Hear(w.packet); !isBad(e, w.want, w.at) {
			t.Errorf("P6: Hear(%v): %#v, want %v at %d", w.packet, e, w.want, w.at)
		}
		wantNothing(t, s)
	}
	wantHeard(t, s, askPacket(0, 4, api.Lack{Block: 0, Many: 1}))
	wantNext(t, s, dataPacket(t, small, 0, one, 0, 2))
}

func TestSenderKeepsNothingThatIsHandedIn(t *testing.T) {
	whole := []byte("abcdefg-xyz")
	before := bytes.Clone(whole)
	object := bytes.Clone(whole[:7])
	s := newSender(t, small, whole[:7])
	packets := sourcePackets(t, small, 0, object)
	if !bytes.Equal(whole, before) {
		t.Errorf("P2: the object was written into")
	}
	scribble(whole)
	wantNext(t, s, packets...)
	ask := append(askPacket(0, 7, api.Lack{Block: 0, Many: 1}), 77, 78)
	before = bytes.Clone(ask)
	wantHeard(t, s, ask[:7])
	if !bytes.Equal(ask, before) {
		t.Errorf("P2: the packet was written into")
	}
	scribble(ask)
	wantNext(t, s, dataPacket(t, small, 0, object, 0, 2))
	wantNothing(t, s)
}

func TestPacketsThatAreSentShareNothing(t *testing.T) {
	object := []byte("abcdefg")
	s := newSender(t, small, object)
	var sent [][]byte
	for range 4 {
		sent = append(sent, sendAll(s)...)
		wantHeard(t, s, askPacket(0, 7, api.Lack{Block: 0, Many: 2}, api.Lack{Block: 1, Many: 1}))
	}
	want := copyLists(sent)
	for i := range sent {
		if !bytes.Equal(sent[i], want[i]) {
			t.Fatalf("P2: packet %d shares memory with one ahead", i)
		}
		scribble(sent[i])
	}
	wantNext(t, s, dataPacket(t, small, 0, object, 0, 0), dataPacket(t, small, 0, object, 0, 1), dataPacket(t, small, 0, object, 1, 2))
}

func TestTwoSendersAreTwo(t *testing.T) {
	one, two := newSender(t, small, []byte("abcd")), newSender(t, small)
	wantNothing(t, two)
	if n, e := two.Enqueue([]byte("efgh")); n != 0 || e != nil {
		t.Errorf("P2: %d, %v", n, e)
	}
	sendAll(one)
	wantHeard(t, one, askPacket(0, 4, api.Lack{Block: 0, Many: 2}))
	wantNext(t, two, sourcePackets(t, small, 0, []byte("efgh"))...)
	wantNothing(t, two)
}

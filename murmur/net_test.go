package murmur_test

import (
	"bytes"
	"testing"

	"murmur/api"
	"murmur/murmur"
)

// net is a sender, receivers of what it tells, and a way to and from each receiver: what goes there may be lost, or
// doubled, and comes in any order.
type net struct {
	t         *testing.T
	c         api.Config
	seed      *uint32
	objects   [][]byte
	sender    *murmur.Sender
	receivers []*murmur.Receiver
	to        [][][]byte
	from      [][]byte
	told      []map[int]bool // by receivers: the objects that it told as taken
}

func newNet(t *testing.T, seed *uint32, c api.Config, receivers int) *net {
	n := &net{t: t, c: c, seed: seed, to: make([][][]byte, receivers)}
	for range 1 + int(draw(seed))%6 {
		n.objects = append(n.objects, bytesOf(someLengths(c)[int(draw(seed))%len(someLengths(c))]))
	}
	n.sender = newSender(t, c, n.objects...)
	for range receivers {
		n.receivers = append(n.receivers, newReceiver(t, c))
		n.told = append(n.told, map[int]bool{})
	}
	return n
}

// put lays a packet on a way: not at all, once, or twice.
func (n *net) put(way *[][]byte, b []byte) {
	for range []int{0, 1, 1, 2}[draw(n.seed)%4] {
		*way = append(*way, bytes.Clone(b))
	}
}

// pull takes any packet from a way.
func (n *net) pull(way *[][]byte) ([]byte, bool) {
	l := *way
	if len(l) == 0 {
		return nil, false
	}
	i := int(draw(n.seed)) % len(l)
	b := l[i]
	l[i] = l[len(l)-1]
	*way = l[:len(l)-1]
	return b, true
}

// step lets something happen: the sender or a receiver tells, or hears.
func (n *net) step() {
	i := int(draw(n.seed)) % len(n.receivers)
	switch draw(n.seed) % 8 {
	case 0, 1:
		if b, is := n.sender.Next(); is {
			for way := range n.to {
				n.put(&n.to[way], b)
			}
		}
	case 2:
		if b, _ := n.receivers[i].Ask(); b != nil {
			n.put(&n.from, b)
		}
	case 3:
		if b, is := n.pull(&n.from); is {
			wantHeard(n.t, n.sender, b)
		}
	case 4:
		n.garble(i)
	default:
		if b, is := n.pull(&n.to[i]); is {
			n.tell(i, b)
		}
	}
	n.look(i)
}

// garble tells what is no packet to a receiver and to the sender.
func (n *net) garble(i int) {
	b := anyBytes(n.seed, 12)
	if len(n.to[i]) > 0 {
		b = bytes.Clone(n.to[i][0])
		b = append(b, 0)[:int(draw(n.seed))%(len(b)+2)]
	}
	if _, e := murmur.Parse(n.c, b); e == nil {
		return
	}
	if n.receivers[i].Hear(b) == nil || n.sender.Hear(b) == nil {
		n.t.Fatalf("P10: what is no packet was heard: %v", b)
	}
}

func (n *net) tell(i int, b []byte) {
	if e := n.receivers[i].Hear(b); e != nil && e != api.ErrFull {
		n.t.Fatalf("P10: Hear(%v): %v", b, e)
	}
}

// look holds what a receiver tells as taken against what the sender has.
func (n *net) look(i int) {
	l, e := n.receivers[i].Taken()
	for _, o := range l {
		if n.told[i][o.Number] || o.Number >= len(n.objects) || !bytes.Equal(o.Bytes, n.objects[o.Number]) {
			n.t.Fatalf("P10: %+v: object %d: %v", n.c, o.Number, o.Bytes)
		}
		n.told[i][o.Number] = true
	}
	if e != nil {
		n.t.Fatalf("P8: %v", e)
	}
}

// heal goes on without any loss, until a receiver lacks nothing; it counts the asks for each object.
func (n *net) heal(i int) {
	asks := map[int]int{}
	for b, e := n.receivers[i].Ask(); b != nil; b, e = n.receivers[i].Ask() {
		number := int(b[1])
		asks[number]++
		if e != nil || asks[number] > n.c.N {
			n.t.Fatalf("P11: %+v: ask %d for object %d: %v, %v", n.c, asks[number], number, b, e)
		}
		wantHeard(n.t, n.sender, b)
		for _, b := range sendAll(n.sender) {
			n.tell(i, b)
		}
		n.look(i)
	}
	for number := range asks {
		if !n.told[i][number] {
			n.t.Fatalf("P11: %+v: object %d was not taken", n.c, number)
		}
	}
}

func TestANetThatLoses(t *testing.T) {
	seed := uint32(5)
	taken := 0
	for round := range 150 {
		n := newNet(t, &seed, bounds[round%len(bounds)], 3)
		for range 1500 {
			n.step()
		}
		for i := range n.receivers {
			n.heal(i)
			taken += len(n.told[i])
		}
	}
	if taken == 0 {
		t.Errorf("nothing was taken")
	}
}

// TestAsksThatAreNeeded begins with a receiver that knows one symbol, or all but one of each block, wherever the turn of
// the sender's places stands.
func TestAsksThatAreNeeded(t *testing.T) {
	seed := uint32(9)
	for _, c := range append(bounds, api.Config{K: 8, N: 10, S: 1}, api.Config{K: 6, N: 16, S: 2}) {
		for _, length := range someLengths(c) {
			for turns := range c.N + 1 {
				n := newNet(t, &seed, c, 2)
				n.objects = [][]byte{bytesOf(length)}
				n.sender = newSender(t, c, n.objects...)
				sendAll(n.sender)
				for range turns {
					wantHeard(t, n.sender, askPacket(0, length, ones(c, length)...))
					sendAll(n.sender)
				}
				spots := enough(&seed, c, n.objects[0])
				n.tell(0, dataPacket(t, c, 0, n.objects[0], spots[0].block, spots[0].place))
				for _, at := range spots[1:] {
					n.tell(1, dataPacket(t, c, 0, n.objects[0], at.block, at.place))
				}
				for i := range n.receivers {
					n.look(i)
					n.heal(i)
				}
				if !n.told[0][0] || len(spots) > 1 && !n.told[1][0] {
					t.Fatalf("P11: %+v, %d bytes, %d turns: not taken", c, length, turns)
				}
			}
		}
	}
}

// ones asks for one symbol of each block.
func ones(c api.Config, length int) []api.Lack {
	asks := allLacks(c, make([]byte, length))
	for i := range asks {
		asks[i].Many = 1
	}
	return asks
}

// TestWhatSpeaksOfNoObject goes through a twin that hears nothing of it.
func TestWhatSpeaksOfNoObject(t *testing.T) {
	objects := [][]byte{[]byte("abcd"), bytesOf(20)}
	s, twin := newSender(t, small, objects...), newSender(t, small, objects...)
	for range 40 {
		for number := range api.MaxObjects {
			for _, length := range []int{0, 3, 5, 19, api.MaxObject} {
				if s.Hear(askPacket(number, length, ones(small, length)...)) == nil {
					t.Fatalf("P10: object %d of %d bytes was heard", number, length)
				}
			}
		}
		want, is := twin.Next()
		if is {
			wantNext(t, s, want)
			continue
		}
		wantNothing(t, s)
		for _, one := range []*murmur.Sender{s, twin} {
			wantHeard(t, one, askPacket(1, 20, ones(small, 20)...))
		}
	}
}

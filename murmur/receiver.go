package murmur

import (
	"murmur/api"
	"murmur/cut"
	"murmur/gather"
	"murmur/wire"
)

// Receiver takes objects.
type Receiver struct {
	config api.Config
	done   chan struct{} // closed when the receiver is
	known  map[int]*gather.Known
	taken  [api.MaxObjects]bool
	untold []api.Object
}

// NewReceiver makes a receiver (P7).
func NewReceiver(c api.Config) (*Receiver, error) {
	if !cut.IsConfig(c) {
		return nil, api.ErrConfig
	}
	return &Receiver{config: c, done: make(chan struct{}), known: map[int]*gather.Known{}}, nil
}

// Hear hears a packet (P7).
func (r *Receiver) Hear(packet []byte) error {
	if r.isClosed() {
		return api.ErrClosed
	}
	p, err := wire.Parse(r.config, packet)
	if err != nil {
		return err
	}
	if p.Kind != api.Data || r.taken[p.Object] {
		return nil
	}
	object, err := r.objectOf(p)
	if err != nil {
		return err
	}
	object.Add(p.Block, p.Place, p.Data)
	if object.IsWhole() {
		r.take(p.Object, object.Bytes())
	}
	return nil
}

// isClosed looks whether the receiver is done.
func (r *Receiver) isClosed() bool {
	select {
	case <-r.done:
		return true
	default:
		return false
	}
}

// objectOf is what is known of the object that the packet speaks of: it is known from now on, if it may be.
func (r *Receiver) objectOf(p api.Packet) (*gather.Known, error) {
	object, is := r.known[p.Object]
	if is && object.Length() != p.Length {
		return nil, wire.Wrong(api.ErrField, wire.LengthAt)
	}
	if is {
		return object, nil
	}
	if len(r.known) == api.MaxOpen {
		return nil, api.ErrFull
	}
	object = gather.Of(r.config, p.Length)
	r.known[p.Object] = object
	return object, nil
}

// take takes an object that is whole.
func (r *Receiver) take(number int, object []byte) {
	r.untold = append(r.untold, api.Object{Number: number, Bytes: object})
	r.taken[number] = true
	delete(r.known, number)
}

// Ask asks for what is lacking (P8).
func (r *Receiver) Ask() ([]byte, error) {
	if r.isClosed() {
		return nil, api.ErrClosed
	}
	for number := range api.MaxObjects {
		if object, is := r.known[number]; is {
			return wire.AskBytes(api.Packet{Object: number, Length: object.Length(), Asks: object.Lacks()}), nil
		}
	}
	return nil, nil
}

// Taken tells objects that were taken (P8).
func (r *Receiver) Taken() ([]api.Object, error) {
	if r.isClosed() {
		return nil, api.ErrClosed
	}
	objects := r.untold
	r.untold = nil
	return objects, nil
}

// Close closes the receiver (P8).
func (r *Receiver) Close() error {
	if r.isClosed() {
		return api.ErrClosed
	}
	close(r.done)
	clear(r.known)
	clear(r.taken[:])
	r.untold = nil
	return nil
}

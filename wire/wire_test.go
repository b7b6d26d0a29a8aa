package wire

import (
	"bytes"
	"errors"
	"reflect"
	"testing"

	"murmur/api"
)

func TestDataBytesAreReadBack(t *testing.T) {
	c := api.Config{K: 2, N: 4, S: 3}
	for _, p := range []api.Packet{
		{Kind: api.Data, Data: []byte{1, 2, 3}},
		{Kind: api.Data, Object: 15, Length: 255, Block: 42, Place: 3, Data: []byte{0, 0, 255}},
		{Kind: api.Data, Object: 7, Length: 13, Block: 2, Place: 2, Data: []byte{9, 8, 7}},
	} {
		b := DataBytes(p)
		if got, e := Parse(c, b); e != nil || !reflect.DeepEqual(got, p) {
			t.Errorf("%v: %+v, %v, want %+v", b, got, e, p)
		}
	}
	if b := DataBytes(api.Packet{Object: 1, Length: 0x203, Block: 4, Place: 5, Data: []byte{6}}); !bytes.Equal(b, []byte{1, 1, 2, 3, 4, 5, 6}) {
		t.Errorf("%v", b)
	}
}

func TestAskBytesAreReadBack(t *testing.T) {
	c := api.Config{K: 2, N: 4, S: 3}
	for _, p := range []api.Packet{
		{Kind: api.Ask, Asks: []api.Lack{{Block: 0, Many: 1}}},
		{Kind: api.Ask, Object: 15, Length: 255, Asks: []api.Lack{{Block: 0, Many: 2}, {Block: 7, Many: 1}, {Block: 42, Many: 1}}},
	} {
		b := AskBytes(p)
		if got, e := Parse(c, b); e != nil || !reflect.DeepEqual(got, p) {
			t.Errorf("%v: %+v, %v, want %+v", b, got, e, p)
		}
	}
	if b := AskBytes(api.Packet{Object: 1, Length: 0x203, Asks: []api.Lack{{Block: 4, Many: 5}}}); !bytes.Equal(b, []byte{2, 1, 2, 3, 1, 4, 5}) {
		t.Errorf("%v", b)
	}
}

func TestReader(t *testing.T) {
	r := &reader{bytes: []byte{1, 2, 3, 4, 5}}
	all := func(int) bool { return true }
	if n, e := r.number(2, nil, all); n != 0x102 || e != nil {
		t.Errorf("%d, %v", n, e)
	}
	if _, e := r.number(1, api.ErrType, func(n int) bool { return n != 3 }); !isBad(e, api.ErrType, 2) {
		t.Errorf("%v", e)
	}
	if e := r.end(); !isBad(e, api.ErrLong, 3) {
		t.Errorf("%v", e)
	}
	if b, e := r.next(3); b != nil || !isBad(e, api.ErrShort, 5) {
		t.Errorf("%v, %v", b, e)
	}
	if b, e := r.next(2); !bytes.Equal(b, []byte{4, 5}) || e != nil {
		t.Errorf("%v, %v", b, e)
	}
	if e := r.end(); e != nil {
		t.Errorf("%v", e)
	}
}

func TestBehind(t *testing.T) {
	if e := behind(4, Wrong(api.ErrShort, 3)); !isBad(e, api.ErrShort, 7) {
		t.Errorf("%v", e)
	}
	if e := behind(4, nil); e != nil {
		t.Errorf("%v", e)
	}
	if e := behind(4, api.ErrArg); e != api.ErrArg {
		t.Errorf("what has no place: %v", e)
	}
}

func isBad(e, want error, at int) bool {
	var bad *api.Bad
	return errors.As(e, &bad) && bad.Err == want && bad.At == at
}

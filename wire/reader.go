package wire

import (
	"errors"

	"murmur/api"
)

// reader goes through bytes from the front on.
type reader struct {
	bytes []byte
	at    int
}

// next is the next bytes, as many as size.
func (r *reader) next(size int) ([]byte, error) {
	if len(r.bytes)-r.at < size {
		return nil, Wrong(api.ErrShort, len(r.bytes))
	}
	piece := r.bytes[r.at : r.at+size]
	r.at += size
	return piece, nil
}

// number is the number in the next bytes, the highest first. What it tells of one that may not be is wrong.
func (r *reader) number(size int, wrong error, may func(int) bool) (int, error) {
	at := r.at
	piece, err := r.next(size)
	if err != nil {
		return 0, err
	}
	number := 0
	for _, b := range piece {
		number = number<<8 | int(b)
	}
	if !may(number) {
		return 0, Wrong(wrong, at)
	}
	return number, nil
}

// end tells what is wrong if there are more bytes.
func (r *reader) end() error {
	ahead := *r // it only looks ahead: the reader stays where it is
	if _, err := ahead.next(1); !errors.Is(err, api.ErrShort) {
		return Wrong(api.ErrLong, r.at)
	}
	return nil
}

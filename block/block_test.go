package block

import (
	"bytes"
	"testing"
)

func TestSymbolOfALine(t *testing.T) {
	// The line 5 + 2x, told at other places each time.
	for _, c := range []struct {
		places []byte
		told   [][]byte
	}{
		{[]byte{0, 1}, [][]byte{{5}, {7}}},
		{[]byte{2, 1}, [][]byte{{1}, {7}}},
		{[]byte{128, 0}, [][]byte{{24}, {5}}},
	} {
		for place, want := range []byte{5, 7, 1, 3} {
			if got := Symbol(c.places, c.told, byte(place)); !bytes.Equal(got, []byte{want}) {
				t.Errorf("from %v at %d: %v, want %d", c.places, place, got, want)
			}
		}
	}
}

func TestSourceOfALine(t *testing.T) {
	got := Source([]byte{3, 2}, [][]byte{{3, 9}, {1, 9}})
	if len(got) != 2 || !bytes.Equal(got[0], []byte{5, 9}) || !bytes.Equal(got[1], []byte{7, 9}) {
		t.Errorf("%v", got)
	}
}

func TestWeightIsOneAtItsPlaceAndNoneAtOthers(t *testing.T) {
	places := []byte{255, 0, 17, 2, 9, 128, 1, 254}
	for i := range places {
		for j, place := range places {
			want := byte(0)
			if i == j {
				want = 1
			}
			if got := weight(places, i, place); got != want {
				t.Errorf("weight of %d at %d: %d, want %d", places[i], place, got, want)
			}
		}
	}
}

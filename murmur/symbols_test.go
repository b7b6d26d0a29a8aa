package murmur_test

import (
	"bytes"
	"math"
	"slices"
	"testing"

	"murmur/api"
	"murmur/murmur"
)

// horner is what the polynomial with these coefficients (the lowest first) has at x: no interpolation, so that it can
// be held against Symbol and Restore.
func horner(coefficients []byte, x int) byte {
	var value byte
	for i := len(coefficients) - 1; i >= 0; i-- {
		value = murmur.Mul(value, byte(x)) ^ coefficients[i]
	}
	return value
}

// polynomials makes one polynomial with k coefficients for each byte of a symbol.
func polynomials(k, size int) [][]byte {
	all := make([][]byte, size)
	for i := range all {
		for j := range k {
			all[i] = append(all[i], byte(1+53*i+91*j+17*i*j+29*k))
		}
	}
	return all
}

func symbolOf(polynomials [][]byte, place int) []byte {
	symbol := make([]byte, len(polynomials))
	for i, p := range polynomials {
		symbol[i] = horner(p, place)
	}
	return symbol
}

func symbolsOf(polynomials [][]byte, places []int) [][]byte {
	symbols := make([][]byte, len(places))
	for i, place := range places {
		symbols[i] = symbolOf(polynomials, place)
	}
	return symbols
}

func firstPlaces(k int) []int {
	places := make([]int, k)
	for i := range places {
		places[i] = i
	}
	return places
}

func sameLists(a, b [][]byte) bool { return slices.EqualFunc(a, b, bytes.Equal) }

func copyLists(lists [][]byte) [][]byte {
	copies := make([][]byte, len(lists))
	for i, l := range lists {
		copies[i] = bytes.Clone(l)
	}
	return copies
}

func TestMulExamples(t *testing.T) {
	for _, c := range [][3]byte{{2, 128, 29}, {3, 7, 9}, {0, 0, 0}, {0, 255, 0}, {255, 1, 255}, {255, 255, 226}} {
		if got := murmur.Mul(c[0], c[1]); got != c[2] {
			t.Errorf("P3: Mul(%d, %d) = %d, want %d", c[0], c[1], got, c[2])
		}
	}
}

func TestMulIsTheProductOfAField(t *testing.T) {
	for a := range 256 {
		ones := 0
		for b := range 256 {
			product := murmur.Mul(byte(a), byte(b))
			if product != murmur.Mul(byte(b), byte(a)) {
				t.Fatalf("P3: Mul(%d, %d) and turned about are two", a, b)
			}
			if low := byte(b & -b); product != murmur.Mul(byte(a), low)^murmur.Mul(byte(a), byte(b)^low) {
				t.Fatalf("P3: Mul(%d, %d) is not the sum of its parts", a, b)
			}
			if product == 1 {
				ones++
			}
		}
		if want := min(a, 1); ones != want {
			t.Errorf("P3: %d has %d inverses, want %d", a, ones, want)
		}
	}
}

func TestSymbolExamples(t *testing.T) {
	for _, c := range []struct {
		source [][]byte
		place  int
		want   []byte
	}{
		{[][]byte{{5}}, 9, []byte{5}},
		{[][]byte{{5}, {7}}, 2, []byte{1}},
		{[][]byte{{}}, 0, nil},
		{[][]byte{nil, {}}, 255, nil},
	} {
		if got, e := murmur.Symbol(c.source, c.place); e != nil || !bytes.Equal(got, c.want) {
			t.Errorf("P3: Symbol(%v, %d): %v, %v, want %v", c.source, c.place, got, e, c.want)
		}
	}
}

func TestSymbolAtAllPlaces(t *testing.T) {
	for k := 1; k <= api.MaxK; k++ {
		for _, size := range []int{1, 3, api.MaxS, 100} {
			of := polynomials(k, size)
			source := symbolsOf(of, firstPlaces(k))
			for place := range 256 {
				got, e := murmur.Symbol(source, place)
				if want := symbolOf(of, place); e != nil || !bytes.Equal(got, want) {
					t.Fatalf("P3: k %d, %d bytes, place %d: %v, %v, want %v", k, size, place, got, e, want)
				}
			}
		}
	}
}

func TestSymbolAtAPlaceOfTheSource(t *testing.T) {
	source := [][]byte{{0, 255}, {255, 0}, {1, 2}, {1, 2}, {0, 0}, {9, 8}, {128, 127}, {255, 255}}
	for k := 1; k <= len(source); k++ {
		for place := range k {
			if got, e := murmur.Symbol(source[:k], place); e != nil || !bytes.Equal(got, source[place]) {
				t.Errorf("P3: k %d, place %d: %v, %v", k, place, got, e)
			}
		}
	}
}

var noPlaces = [...]int{-1, 256, 257, -255, -256, 512, math.MinInt, math.MaxInt}

func TestSymbolRefuses(t *testing.T) {
	refuse := func(why string, source [][]byte, place int) {
		t.Helper()
		if got, e := murmur.Symbol(source, place); got != nil || e != api.ErrArg {
			t.Errorf("P1, P3: %s: %v, %v", why, got, e)
		}
	}
	refuse("no list", nil, 0)
	refuse("no symbols", [][]byte{}, 0)
	refuse("one symbol too many", make([][]byte, api.MaxK+1), 0)
	refuse("many symbols", make([][]byte, 256), 0)
	for _, place := range noPlaces {
		refuse("no place", [][]byte{{5}, {7}}, place)
	}
	for odd := range api.MaxK {
		for _, other := range [][]byte{nil, {1}, {1, 2, 3}} {
			source := symbolsOf(polynomials(api.MaxK, 2), firstPlaces(api.MaxK))
			source[odd] = other
			refuse("a symbol of another length", source, 0)
		}
	}
}

func TestRestoreExample(t *testing.T) {
	got, e := murmur.Restore(2, []int{2, 1}, [][]byte{{1}, {7}})
	if e != nil || !sameLists(got, [][]byte{{5}, {7}}) {
		t.Errorf("P3: %v, %v", got, e)
	}
}

// eachChoice calls do with each list of k places of those below end, in rising order.
func eachChoice(k, end int, do func([]int)) {
	if k == 0 {
		do(nil)
		return
	}
	for last := k - 1; last < end; last++ {
		eachChoice(k-1, last, func(places []int) { do(append(places, last)) })
	}
}

func TestRestoreFromAnySymbols(t *testing.T) {
	for k := 1; k <= api.MaxK; k++ {
		of := polynomials(k, 2)
		want := symbolsOf(of, firstPlaces(k))
		eachChoice(k, api.MaxN, func(places []int) {
			got, e := murmur.Restore(k, places, symbolsOf(of, places))
			if e != nil || !sameLists(got, want) {
				t.Fatalf("P3: k %d from %v: %v, %v, want %v", k, places, got, e, want)
			}
		})
	}
}

// TestAnySymbolsOfABlockGiveItBack takes the last block of an object, too: its repair symbols begin at K, not at its k.
func TestAnySymbolsOfABlockGiveItBack(t *testing.T) {
	for most := 1; most <= api.MaxK; most++ {
		c := api.Config{K: most, N: api.MaxN, S: 3}
		for k := 1; k <= most; k++ {
			source := cutUp(c, bytesOf(k*c.S))[0]
			round := roundOf(c, k)
			eachChoice(k, len(round), func(turns []int) {
				places, symbols := make([]int, k), make([][]byte, k)
				for i, turn := range turns {
					places[i] = round[turn]
					symbols[i], _ = murmur.Symbol(source, places[i])
				}
				if got, e := murmur.Restore(k, places, symbols); e != nil || !sameLists(got, source) {
					t.Fatalf("P9: K %d, k %d from %v: %v, %v, want %v", most, k, places, got, e, source)
				}
			})
		}
	}
}

func TestRestoreFromPlacesOfAllOrders(t *testing.T) {
	for _, places := range [][]int{
		{0}, {255}, {1, 0}, {255, 0}, {0, 255}, {255, 254, 253}, {7, 6, 5, 4, 3, 2, 1, 0},
		{255, 0, 128, 3, 64, 7, 200, 1}, {248, 249, 250, 251, 252, 253, 254, 255},
	} {
		k := len(places)
		for _, size := range []int{0, 1, api.MaxS, 100} {
			of := polynomials(k, size)
			got, e := murmur.Restore(k, places, symbolsOf(of, places))
			if want := symbolsOf(of, firstPlaces(k)); e != nil || !sameLists(got, want) {
				t.Errorf("P3: from %v, %d bytes: %v, %v, want %v", places, size, got, e, want)
			}
		}
	}
}

func TestRestoreRefuses(t *testing.T) {
	refuse := func(why string, k int, places []int, symbols [][]byte) {
		t.Helper()
		if got, e := murmur.Restore(k, places, symbols); got != nil || e != api.ErrArg {
			t.Errorf("P1, P3: %s: %v, %v", why, got, e)
		}
	}
	lists := func(k int) [][]byte { return symbolsOf(polynomials(k, 2), firstPlaces(k)) }
	for _, k := range []int{0, -1, math.MinInt, math.MaxInt} {
		refuse("no k", k, nil, nil)
		refuse("no k", k, firstPlaces(1), lists(1))
	}
	refuse("k too great", api.MaxK+1, firstPlaces(api.MaxK+1), lists(api.MaxK+1))
	for k := 1; k <= api.MaxK; k++ {
		refuse("no places", k, nil, lists(k))
		refuse("no symbols", k, firstPlaces(k), nil)
		refuse("a place too few", k, firstPlaces(k-1), lists(k))
		refuse("a place too many", k, firstPlaces(k+1), lists(k))
		refuse("a symbol too few", k, firstPlaces(k), lists(k-1))
		refuse("a symbol too many", k, firstPlaces(k), lists(k+1))
		refuse("one too few of both", k, firstPlaces(k-1), lists(k-1))
		refuse("one too many of both", k, firstPlaces(k+1), lists(k+1))
		for at := range k {
			for _, place := range noPlaces {
				places := firstPlaces(k)
				places[at] = place
				refuse("no place", k, places, lists(k))
			}
		}
	}
}

func TestRestoreRefusesPlacesTwiceAndOddLengths(t *testing.T) {
	const k = api.MaxK
	for i := range k {
		for j := range k {
			places := firstPlaces(k)
			places[i] = places[j]
			_, e := murmur.Restore(k, places, symbolsOf(polynomials(k, 1), places))
			if (e == api.ErrArg) != (i != j) {
				t.Errorf("P3: from %v: %v", places, e)
			}
		}
		for _, other := range [][]byte{nil, {1}, {1, 2, 3}} {
			symbols := symbolsOf(polynomials(k, 2), firstPlaces(k))
			symbols[i] = other
			if got, e := murmur.Restore(k, firstPlaces(k), symbols); got != nil || e != api.ErrArg {
				t.Errorf("P3: symbol %d of %d bytes: %v, %v", i, len(other), got, e)
			}
		}
	}
}

// roomy lays the lists into one array, each with spare room behind it that the next ones stand in.
func roomy(lists [][]byte) (whole []byte, laid [][]byte) {
	for _, l := range lists {
		whole = append(whole, l...)
	}
	whole = append(whole, 77, 78, 79)
	at := 0
	for _, l := range lists {
		laid = append(laid, whole[at:at+len(l)])
		at += len(l)
	}
	return whole, laid
}

// scribble writes into a list and into its spare room.
func scribble(list []byte) {
	list = list[:cap(list)]
	for i := range list {
		list[i] ^= 0xff
	}
}

func TestSymbolSharesNothing(t *testing.T) {
	for _, place := range []int{0, 1, 3, 4, 255} {
		whole, source := roomy(symbolsOf(polynomials(4, 3), firstPlaces(4)))
		source = append(source, []byte{1})[:4]
		before, spare := bytes.Clone(whole), bytes.Clone(source[:5][4])
		first, _ := murmur.Symbol(source, place)
		second, _ := murmur.Symbol(source, place)
		want := bytes.Clone(first)
		if !bytes.Equal(second, want) {
			t.Errorf("P2: place %d: %v, then %v", place, want, second)
		}
		scribble(first)
		if !bytes.Equal(second, want) {
			t.Errorf("P2: place %d: two answers share memory", place)
		}
		if !bytes.Equal(whole, before) || !bytes.Equal(source[:5][4], spare) {
			t.Errorf("P2: place %d: the source was written into", place)
		}
		scribble(whole)
		if !bytes.Equal(second, want) {
			t.Errorf("P2: place %d: the answer shares memory with the source", place)
		}
	}
}

func TestRestoreSharesNothing(t *testing.T) {
	for _, places := range [][]int{{0, 1, 2}, {2, 1, 0}, {9, 0, 255}} {
		of := polynomials(3, 2)
		want := symbolsOf(of, firstPlaces(3))
		whole, symbols := roomy(symbolsOf(of, places))
		before, told := bytes.Clone(whole), append(slices.Clone(places), 66)
		roomyPlaces := told[:3]
		first, _ := murmur.Restore(3, roomyPlaces, symbols)
		second, _ := murmur.Restore(3, roomyPlaces, symbols)
		if !sameLists(first, want) || !sameLists(second, want) {
			t.Errorf("P2: %v: %v, then %v", places, first, second)
		}
		for i := range first {
			scribble(first[i])
			first[i] = nil
			if !sameLists(first[i+1:], want[i+1:]) || !sameLists(second, want) {
				t.Errorf("P2: %v: two lists of answers share memory", places)
			}
		}
		if !bytes.Equal(whole, before) || !slices.Equal(told, append(slices.Clone(places), 66)) {
			t.Errorf("P2: %v: an argument was written into", places)
		}
		scribble(whole)
		if !sameLists(second, want) {
			t.Errorf("P2: %v: the answer shares memory with the symbols", places)
		}
	}
}

func TestRestoreOfOneListAtAllPlaces(t *testing.T) {
	one := []byte{5, 6}
	got, e := murmur.Restore(3, []int{4, 5, 6}, [][]byte{one, one, one})
	if e != nil || !sameLists(got, [][]byte{one, one, one}) {
		t.Fatalf("P3: %v, %v", got, e)
	}
	scribble(got[0])
	if !sameLists(got[1:], [][]byte{{5, 6}, {5, 6}}) || !bytes.Equal(one, []byte{5, 6}) {
		t.Errorf("P2: lists share memory: %v, %v", got, one)
	}
}

func TestAnErrorChangesNothing(t *testing.T) {
	source := [][]byte{{1, 2}, {3}}
	places, before := []int{1, 1}, copyLists(source)
	murmur.Symbol(source, 300)
	murmur.Restore(2, places, source)
	if !sameLists(source, before) || !slices.Equal(places, []int{1, 1}) {
		t.Errorf("P1: %v, %v", source, places)
	}
	if got, e := murmur.Symbol([][]byte{{5}, {7}}, 2); e != nil || !bytes.Equal(got, []byte{1}) {
		t.Errorf("P1: after an error: %v, %v", got, e)
	}
}

// TestNoPanic goes through arguments of all kinds together, the wrong ones with the right ones.
func TestNoPanic(t *testing.T) {
	numbers := []int{math.MinInt, -256, -1, 0, 1, 2, 7, 8, 9, 255, 256, math.MaxInt}
	lists := [][][]byte{nil, {}, {nil}, {{}}, {{1}}, {{1}, {2}}, {{1}, nil}, {nil, nil}, make([][]byte, 8), make([][]byte, 9)}
	places := [][]int{nil, {}, {0}, {255}, {256}, {0, 1}, {1, 1}, {0, math.MinInt}, firstPlaces(8), firstPlaces(9)}
	for _, n := range numbers {
		for _, l := range lists {
			if s, e := murmur.Symbol(l, n); e != nil && (e != api.ErrArg || s != nil) {
				t.Errorf("P1: Symbol(%v, %d): %v, %v", l, n, s, e)
			}
			for _, p := range places {
				s, e := murmur.Restore(n, p, l)
				if e != nil && (e != api.ErrArg || s != nil) || e == nil && len(s) != n {
					t.Errorf("P1: Restore(%d, %v, %v): %v, %v", n, p, l, s, e)
				}
			}
		}
	}
}

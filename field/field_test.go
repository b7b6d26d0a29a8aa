package field

import "testing"

// longProduct multiplies without any modulus, then divides: a second way, to hold Mul against.
func longProduct(a, b byte) byte {
	var long uint
	for i := range 8 {
		long ^= uint(a) * (uint(b) & (1 << i))
	}
	for i := 15; i >= 8; i-- {
		if long&(1<<i) != 0 {
			long ^= 0x11d << (i - 8)
		}
	}
	return byte(long)
}

func TestMulOfAllNumbers(t *testing.T) {
	for a := range 256 {
		for b := range 256 {
			if got, want := Mul(byte(a), byte(b)), longProduct(byte(a), byte(b)); got != want {
				t.Fatalf("P3: Mul(%d, %d) = %d, want %d", a, b, got, want)
			}
		}
	}
}

func TestInverseOfAllNumbers(t *testing.T) {
	if got := Inverse(0); got != 0 {
		t.Errorf("Inverse(0) = %d", got)
	}
	for a := 1; a < 256; a++ {
		if got := longProduct(byte(a), Inverse(byte(a))); got != 1 {
			t.Errorf("%d times its inverse is %d", a, got)
		}
	}
}

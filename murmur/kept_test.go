package murmur

import (
	"testing"

	"murmur/api"
)

// TestAReceiverKeepsNoMoreThanItNeeds looks inside: no call tells what is kept without need.
func TestAReceiverKeepsNoMoreThanItNeeds(t *testing.T) {
	r, _ := NewReceiver(api.Config{K: 2, N: 4, S: 3})
	r.Hear([]byte{1, 5, 0, 13, 0, 0, 1, 2, 3})
	r.Hear([]byte{1, 4, 0, 3, 0, 0, 1, 2, 3})
	if len(r.known) != 1 || r.known[5] == nil || len(r.untold) != 1 {
		t.Errorf("what is whole: %v is known, %v is untold", r.known, r.untold)
	}
	r.Taken()
	if r.untold != nil {
		t.Errorf("what was told: %v", r.untold)
	}
	r.Hear([]byte{1, 3, 0, 3, 0, 0, 1, 2, 3})
	r.Close()
	if len(r.known) != 0 || r.taken != [api.MaxObjects]bool{} || r.untold != nil {
		t.Errorf("closed: %v, %v, %v", r.known, r.taken, r.untold)
	}
}

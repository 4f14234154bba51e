package taker_test

import (
	"bytes"
	"testing"

	"convoy/frame"
	"convoy/taker"
)

func TestWhatIsThereIsTaken(t *testing.T) {
	sealed, _ := frame.Seal([]byte{7, 8})
	k := taker.Taker{Rest: append([]byte{172, 2, 2, 'a', 'b', 0, 0}, append(sealed, 5)...)}
	if n, s := k.Number(), k.Text(); n != 300 || s != "ab" {
		t.Errorf("P1.2: %d, %q, want 300, ab", n, s)
	}
	if n, s, p := k.Number(), k.Text(), k.Payload(); n != 0 || s != "" || !bytes.Equal(p, []byte{7, 8}) || !bytes.Equal(k.Rest, []byte{5}) {
		t.Errorf("P1.2: %d, %q, %v, and %v is left", n, s, p, k.Rest)
	}
}

// TestWhatIsNotThereTakesNothing: what doesn't begin with a thing is as it was, and the thing has its zero value.
func TestWhatIsNotThereTakesNothing(t *testing.T) {
	for _, b := range [][]byte{nil, {128}, {128, 0}, {255, 255, 255, 255, 255, 255, 255, 255, 255, 2}} {
		k := taker.Taker{Rest: b}
		if n, s, p := k.Number(), k.Text(), k.Payload(); n != 0 || s != "" || len(p) != 0 || !bytes.Equal(k.Rest, b) {
			t.Errorf("P1.2: of %v: %d, %q, %v, and %v is left", b, n, s, p, k.Rest)
		}
	}
	k := taker.Taker{Rest: []byte{3, 'a', 'b'}}
	if s, p := k.Text(), k.Payload(); s != "" || len(p) != 0 || len(k.Rest) != 3 {
		t.Errorf("P1.2: a text too short: %q, %v, and %v is left", s, p, k.Rest)
	}
}

func TestNumbersUpToTheGreatest(t *testing.T) {
	k := taker.Taker{Rest: frame.Uint(1 << 62)}
	if n := k.Number(); n != 1<<62 || len(k.Rest) != 0 {
		t.Errorf("P8.1: %d, and %v is left", n, k.Rest)
	}
	for _, n := range []uint64{1<<62 + 1, 1 << 63, 1<<64 - 1} {
		k = taker.Taker{Rest: frame.Uint(n)}
		if got := k.Number(); got != 0 || !bytes.Equal(k.Rest, frame.Uint(n)) {
			t.Errorf("P8.1: of %d: %d, and %v is left", n, got, k.Rest)
		}
	}
}

package calendar_test

import (
	"math"
	"math/big"
	"testing"

	"pairing/calendar"
)

// P6.3

func TestSplitMinute(t *testing.T) {
	for _, c := range []struct{ t, day, clock int }{{0, 0, 0}, {1, 0, 1}, {1439, 0, 1439}, {1440, 1, 0}, {2879, 1, 1439}, {-1, -1, 1439}, {-1439, -1, 1}, {-1440, -1, 0}, {-1441, -2, 1439}, {math.MaxInt, math.MaxInt / 1440, math.MaxInt % 1440}} {
		if day, clock := calendar.SplitMinute(c.t); day != c.day || clock != c.clock {
			t.Errorf("SplitMinute(%d): %d, %d, want %d, %d", c.t, day, clock, c.day, c.clock)
		}
	}
}

func TestSplitMinuteOfAnyInt(t *testing.T) {
	minutes := borderNumbers()
	for n := -20000; n <= 20000; n++ {
		minutes = append(minutes, n, 1440*n-1, 1440*n)
	}
	for _, n := range minutes {
		// Euclidean division by a positive number rounds toward negative infinity.
		day, clock := new(big.Int).DivMod(big.NewInt(int64(n)), big.NewInt(1440), new(big.Int))
		if d, c := calendar.SplitMinute(n); int64(d) != day.Int64() || int64(c) != clock.Int64() {
			t.Errorf("SplitMinute(%d): %d, %d, want %v, %v", n, d, c, day, clock)
		}
	}
}

package zone_test

import (
	"math"
	"slices"
	"testing"

	"pairing/api"
	"pairing/zone"
)

// P7.3

func checkInstants(t *testing.T, z api.Zone, day, clock int, want ...int) {
	t.Helper()
	if l, e := zone.Instants(z, day, clock); !slices.Equal(l, want) || e != api.OK {
		t.Errorf("Instants(%v, %d, %d): %v, error %d, want %v", z, day, clock, l, e, want)
	}
}

func TestInstants(t *testing.T) {
	z := zoneOf(60, api.Shift{At: 1000, Offset: 120}, api.Shift{At: 5000, Offset: 60})
	checkInstants(t, z, 0, 59)
	checkInstants(t, z, 0, 60, 0)
	checkInstants(t, z, 0, 1059, 999)
	checkInstants(t, z, 0, 1060)
	checkInstants(t, z, 0, 1100)
	checkInstants(t, z, 0, 1119)
	checkInstants(t, z, 0, 1120, 1000)
	checkInstants(t, z, 1, 0, 1320)
	checkInstants(t, z, 3, 739, 4939)
	checkInstants(t, z, 3, 740, 4940, 5000)
	checkInstants(t, z, 3, 799, 4999, 5059)
	checkInstants(t, z, 3, 800, 5060)
	checkInstants(t, z, 36525, 59, lastInstant)
	checkInstants(t, z, 36525, 60)
	checkInstants(t, zoneOf(0), 0, 0, 0)
	checkInstants(t, zoneOf(0), -1, 1439)
	checkInstants(t, zoneOf(0), 36524, 1439, lastInstant)
	checkInstants(t, zoneOf(0), 36525, 0)
	checkInstants(t, zoneOf(-840), -1, 599)
	checkInstants(t, zoneOf(-840), -1, 600, 0)
	checkInstants(t, zoneOf(-840), -1, 1439, 839)
	checkInstants(t, zoneOf(-840), 36524, 599, lastInstant)
	checkInstants(t, zoneOf(-840), 36524, 600)
	checkInstants(t, zoneOf(840), 36525, 839, lastInstant)
	checkInstants(t, zoneOf(840), 36525, 840)
	checkInstants(t, zoneOf(0, api.Shift{At: 1, Offset: -1}, api.Shift{At: 2, Offset: -2}, api.Shift{At: 3, Offset: -3}), 0, 0, 0, 1, 2, 3)
}

// instants is the definition of Instants: it looks at each instant at which
// the local time is possible.
func instants(z api.Zone, day, clock int) []int {
	var l []int
	minute := 1440*day + clock
	for at := max(0, minute-api.MaxOffset); at <= min(lastInstant, minute+api.MaxOffset); at++ {
		if at+offsetAt(z, at) == minute {
			l = append(l, at)
		}
	}
	return l
}

func TestInstantsByDefinition(t *testing.T) {
	for _, z := range allZones() {
		for i, at := range instantsOf(z) {
			if i%2 == 1 {
				continue
			}
			// The local times there, and those that a shift skips.
			for _, offset := range []int{offsetAt(z, at), offsetAt(z, max(at-1, 0)), 13, -777} {
				d, k := (at+offset+1440)/1440-1, (at+offset+1440)%1440
				checkInstants(t, z, d, k, instants(z, d, k)...)
			}
		}
	}
}

// Every instant is found by its local time, exactly once.
func TestEveryInstant(t *testing.T) {
	for _, z := range exampleZones() {
		found := make([]int, 3000)
		for d := -2; d <= 4; d++ {
			for clock := range 1440 {
				l, e := zone.Instants(z, d, clock)
				if e != api.OK || !slices.IsSorted(l) {
					t.Errorf("Instants(%v, %d, %d): %v, error %d", z, d, clock, l, e)
				}
				for _, at := range l {
					if wantDay, wantClock := localTime(z, at); wantDay != d || wantClock != clock {
						t.Errorf("Instants(%v, %d, %d): %v", z, d, clock, l)
					}
					if at < len(found) {
						found[at]++
					}
				}
			}
		}
		for at, n := range found {
			if n != 1 {
				t.Fatalf("the instant %d of %v is found %d times", at, z, n)
			}
		}
	}
}

func TestInstantsOfFarDays(t *testing.T) {
	for _, z := range exampleZones() {
		for _, clock := range []int{0, 60, 600, 1439} {
			for _, d := range []int{-2, -3, -36525, 36526, 36527, 1 << 20, 1 << 32, -1 << 32, math.MinInt, math.MinInt + 1, math.MinInt / 1440, math.MinInt/1440 - 1, math.MaxInt/1440 + 1, math.MaxInt / 1440, math.MaxInt - 1, math.MaxInt} {
				checkInstants(t, z, d, clock)
			}
			// Days whose number of minutes, in 64 bits, is that of day 1.
			for _, power := range []int{59, 60, 61, 62} {
				checkInstants(t, z, 1+1<<power, clock)
				checkInstants(t, z, 1-1<<power, clock)
			}
		}
	}
}

func TestInstantsOfFaultyClocks(t *testing.T) {
	for _, d := range []int{0, 1, -1, 36525, math.MinInt, math.MaxInt} {
		for _, clock := range []int{-1, -2, -1440, 1440, 1441, 2880, 1 << 32, 1<<32 + 60, -1 << 32, math.MinInt, math.MaxInt} {
			if l, e := zone.Instants(zoneOf(60), d, clock); len(l) != 0 || e != api.ErrRange {
				t.Errorf("Instants of day %d, clock %d: %v, error %d, want ErrRange", d, clock, l, e)
			}
		}
	}
}

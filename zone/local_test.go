package zone_test

import (
	"math"
	"testing"

	"pairing/api"
	"pairing/zone"
)

// P7.2

func checkLocal(t *testing.T, z api.Zone, at, offset, day, clock int) {
	t.Helper()
	if n, e := zone.OffsetAt(z, at); n != offset || e != api.OK {
		t.Errorf("OffsetAt(%v, %d): %d, error %d, want %d", z, at, n, e, offset)
	}
	if n, e := zone.LocalMinute(z, at); n != at+offset || e != api.OK {
		t.Errorf("LocalMinute(%v, %d): %d, error %d, want %d", z, at, n, e, at+offset)
	}
	if d, k, e := zone.LocalTime(z, at); d != day || k != clock || e != api.OK {
		t.Errorf("LocalTime(%v, %d): day %d, clock %d, error %d, want %d, %d", z, at, d, k, e, day, clock)
	}
}

func TestLocal(t *testing.T) {
	z := zoneOf(60, api.Shift{At: 1000, Offset: 120}, api.Shift{At: 5000, Offset: -90})
	checkLocal(t, z, 0, 60, 0, 60)
	checkLocal(t, z, 999, 60, 0, 1059)
	checkLocal(t, z, 1000, 120, 0, 1120)
	checkLocal(t, z, 1319, 120, 0, 1439)
	checkLocal(t, z, 1320, 120, 1, 0)
	checkLocal(t, z, 4999, 120, 3, 799)
	checkLocal(t, z, 5000, -90, 3, 590)
	checkLocal(t, z, lastInstant, -90, 36524, 1349)
	checkLocal(t, zoneOf(0), 0, 0, 0, 0)
	checkLocal(t, zoneOf(0), lastInstant, 0, 36524, 1439)
	checkLocal(t, zoneOf(-1), 0, -1, -1, 1439)
	checkLocal(t, zoneOf(-840), 839, -840, -1, 1439)
	checkLocal(t, zoneOf(-840), 840, -840, 0, 0)
	checkLocal(t, zoneOf(840), lastInstant, 840, 36525, 839)
	checkLocal(t, zoneOf(1, api.Shift{At: 0, Offset: 2}), 0, 2, 0, 2)
}

func TestLocalByDefinition(t *testing.T) {
	for _, z := range allZones() {
		check := func(at int) {
			d, k := localTime(z, at)
			checkLocal(t, z, at, offsetAt(z, at), d, k)
		}
		for _, at := range instantsOf(z) {
			check(at)
		}
		for at := 0; at < 4000; at += 3 {
			check(at)
			check(lastInstant - at)
		}
		for at := 0; at <= lastInstant; at += 99991 {
			check(at)
		}
	}
}

func TestLocalOfFaultyInstants(t *testing.T) {
	for _, z := range exampleZones() {
		for _, at := range []int{-1, -2, -1440, api.MaxMinute, api.MaxMinute + 1, 1 << 26, 1 << 32, 1<<32 + 5, -1 << 32, math.MinInt, math.MinInt + 1, math.MaxInt - 1, math.MaxInt} {
			if n, e := zone.OffsetAt(z, at); n != 0 || e != api.ErrRange {
				t.Errorf("OffsetAt(%v, %d): %d, error %d, want ErrRange", z, at, n, e)
			}
			if n, e := zone.LocalMinute(z, at); n != 0 || e != api.ErrRange {
				t.Errorf("LocalMinute(%v, %d): %d, error %d, want ErrRange", z, at, n, e)
			}
			if d, k, e := zone.LocalTime(z, at); d != 0 || k != 0 || e != api.ErrRange {
				t.Errorf("LocalTime(%v, %d): %d, %d, error %d, want ErrRange", z, at, d, k, e)
			}
		}
	}
}

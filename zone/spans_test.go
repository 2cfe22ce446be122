package zone_test

import (
	"math"
	"testing"

	"pairing/api"
	"pairing/zone"
)

// P7.4

func faultySpans() []api.Span {
	return []api.Span{{From: -1}, {From: -1, To: -1}, {From: -1, To: 5}, {From: -1, To: api.MaxMinute + 1}, {To: -1}, {From: 1}, {From: 7, To: 6}, {From: 7, To: -6}, {From: lastInstant, To: 0}, {To: api.MaxMinute + 1}, {From: api.MaxMinute, To: lastInstant}, {From: api.MaxMinute, To: api.MaxMinute + 1}, {From: api.MaxMinute + 1, To: api.MaxMinute + 1}, {From: api.MaxMinute + 1, To: 5}, {From: math.MinInt, To: math.MinInt}, {From: math.MinInt, To: math.MaxInt}, {From: math.MinInt}, {From: math.MaxInt}, {To: math.MinInt}, {To: math.MaxInt}, {From: math.MaxInt, To: math.MaxInt}, {From: math.MaxInt, To: math.MinInt}, {From: 1 << 32, To: 1<<32 + 5}, {From: 3, To: 1<<32 + 5}}
}

func checkDays(t *testing.T, z api.Zone, from, to, first, last int) {
	t.Helper()
	if a, b, e := zone.LocalDays(z, api.Span{From: from, To: to}); a != first || b != last || e != api.OK {
		t.Errorf("LocalDays(%v, %d to %d): %d, %d, error %d, want %d, %d", z, from, to, a, b, e, first, last)
	}
}

func TestLocalDays(t *testing.T) {
	checkDays(t, zoneOf(0), 0, 1, 0, 0)
	checkDays(t, zoneOf(0), 0, 1440, 0, 0)
	checkDays(t, zoneOf(0), 0, 1441, 0, 1)
	checkDays(t, zoneOf(0), 1439, 1441, 0, 1)
	checkDays(t, zoneOf(0), 1440, 1441, 1, 1)
	checkDays(t, zoneOf(0), 0, api.MaxMinute, 0, 36524)
	checkDays(t, zoneOf(0), lastInstant, api.MaxMinute, 36524, 36524)
	checkDays(t, zoneOf(60), 1379, 1380, 0, 0)
	checkDays(t, zoneOf(60), 1379, 1381, 0, 1)
	checkDays(t, zoneOf(60), 0, api.MaxMinute, 0, 36525)
	checkDays(t, zoneOf(-60), 0, 60, -1, -1)
	checkDays(t, zoneOf(-60), 0, 61, -1, 0)
	// The clock goes back across midnight: the last day is before the first.
	checkDays(t, zoneOf(0, api.Shift{At: 1450, Offset: -60}), 1440, 1451, 1, 0)
	checkDays(t, zoneOf(0, api.Shift{At: 1450, Offset: -60}), 1440, 1450, 1, 1)
	checkDays(t, zoneOf(0, api.Shift{At: 1400, Offset: 60}), 0, 1400, 0, 0)
	checkDays(t, zoneOf(0, api.Shift{At: 1400, Offset: 60}), 0, 1401, 0, 1)
}

func TestLocalDaysByDefinition(t *testing.T) {
	for _, z := range allZones() {
		l := instantsOf(z)
		for _, from := range l {
			for _, to := range l {
				if from < to {
					first, _ := localTime(z, from)
					last, _ := localTime(z, to-1)
					checkDays(t, z, from, to, first, last)
				}
			}
		}
	}
}

func TestLocalDaysOfFaultySpans(t *testing.T) {
	for _, z := range exampleZones() {
		for _, s := range faultySpans() {
			if a, b, e := zone.LocalDays(z, s); a != 0 || b != 0 || e != api.ErrRange {
				t.Errorf("LocalDays(%v, %v): %d, %d, error %d, want ErrRange", z, s, a, b, e)
			}
		}
		for _, at := range []int{0, 1, 60, 1440, 2000, lastInstant, api.MaxMinute} {
			if a, b, e := zone.LocalDays(z, api.Span{From: at, To: at}); a != 0 || b != 0 || e != api.ErrOrder {
				t.Errorf("LocalDays(%v) of an empty span at %d: %d, %d, error %d, want ErrOrder", z, at, a, b, e)
			}
		}
	}
}

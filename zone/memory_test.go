package zone_test

import (
	"slices"
	"testing"

	"pairing/api"
	"pairing/zone"
)

// R2

// callAll calls each function, with arguments that are valid and not.
func callAll(z api.Zone) {
	for _, n := range []int{-1, 0, 1000, 5000, lastInstant, api.MaxMinute} {
		s := api.Span{From: n, To: n + 3000}
		zone.Validate(z)
		zone.OffsetAt(z, n)
		zone.LocalMinute(z, n)
		zone.LocalTime(z, n)
		zone.Instants(z, n/1440, 600)
		zone.LocalDays(z, s)
		zone.BandMinutes(z, s, 1320, 360)
		zone.Nights(z, s, 1320, 360)
	}
}

func TestArgumentsAreNotModified(t *testing.T) {
	zones := exampleZones()
	for _, c := range faultyZones() {
		zones = append(zones, c.zone)
	}
	for _, z := range zones {
		// Spare capacity that would be wrong shifts.
		spare := append(slices.Clone(z.Shifts), api.Shift{At: -7, Offset: 7777}, api.Shift{At: -8, Offset: 8888})
		before := slices.Clone(spare)
		z.Shifts = spare[:len(z.Shifts)]
		callAll(z)
		if !slices.Equal(spare, before) {
			t.Errorf("the shifts were %v, now they are %v", before, spare)
		}
	}
}

func TestArgumentsAreNotRetained(t *testing.T) {
	z := zoneOf(60, api.Shift{At: 1000, Offset: 120}, api.Shift{At: 5000, Offset: 60})
	callAll(z)
	z.Shifts[0] = api.Shift{At: 2000, Offset: -60}
	checkLocal(t, z, 1999, 60, 1, 619)
	checkLocal(t, z, 2000, -60, 1, 500)
	checkInstants(t, z, 1, 500, 1880, 2000)
	checkCounted(t, z, api.Span{To: 6000}, 0, 600)
}

func TestInstantsAreNew(t *testing.T) {
	z := zoneOf(60, api.Shift{At: 5000, Offset: 0})
	first, _ := zone.Instants(z, 3, 700)
	second, _ := zone.Instants(z, 3, 700)
	first[0], first[1] = 7, 8
	_ = append(first[:1], 9, 10, 11)
	if !slices.Equal(second, []int{4960, 5020}) {
		t.Errorf("a result changes with another one: %v", second)
	}
	checkInstants(t, z, 3, 700, 4960, 5020)
}

// An empty list of shifts is one without memory.
func TestEmptyShifts(t *testing.T) {
	z := api.Zone{Name: "a", Offset: 60, Shifts: []api.Shift{}}
	checkLocal(t, z, 1380, 60, 1, 0)
	checkInstants(t, z, 1, 0, 1380)
	checkBand(t, z, api.Span{To: 2880}, 0, 60, 120, 2)
}

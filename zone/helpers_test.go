package zone_test

import (
	"math"
	"math/rand"
	"slices"
	"strings"

	"pairing/api"
)

const (
	lastInstant = api.MaxMinute - 1
	day         = 1440
)

func zoneOf(offset int, shifts ...api.Shift) api.Zone {
	return api.Zone{Name: "a", Offset: offset, Shifts: shifts}
}

// exampleZones returns valid zones that differ in what is special about them.
func exampleZones() []api.Zone {
	steps, waves, late := zoneOf(-7), zoneOf(api.MaxOffset), zoneOf(30)
	for i := range api.MaxShifts {
		sign := 2*(i%2) - 1
		steps.Shifts = append(steps.Shifts, api.Shift{At: i, Offset: -i})
		waves.Shifts = append(waves.Shifts, api.Shift{At: 100 + 700*i, Offset: sign * api.MaxOffset})
		late.Shifts = append(late.Shifts, api.Shift{At: lastInstant - 5000 + 333*i, Offset: sign * 37 * i})
	}
	return []api.Zone{
		zoneOf(0),
		zoneOf(60),
		zoneOf(-60),
		zoneOf(api.MaxOffset),
		zoneOf(-api.MaxOffset),
		{Name: "a234567890123_56", Offset: 60, Shifts: []api.Shift{{At: 1000, Offset: 120}, {At: 5000, Offset: 60}}},
		zoneOf(60, api.Shift{At: 0, Offset: -60}),
		zoneOf(60, api.Shift{At: 1, Offset: -60}),
		zoneOf(0, api.Shift{At: 1440, Offset: 0}, api.Shift{At: 1500, Offset: 0}),
		zoneOf(-840, api.Shift{At: lastInstant, Offset: 840}),
		zoneOf(840, api.Shift{At: lastInstant, Offset: -840}),
		zoneOf(840, api.Shift{At: 2000, Offset: -840}),
		zoneOf(-840, api.Shift{At: 2000, Offset: 840}),
		zoneOf(-500, api.Shift{At: 300, Offset: 840}, api.Shift{At: 301, Offset: -840}, api.Shift{At: 900, Offset: 7}, api.Shift{At: 2000, Offset: -53}),
		zoneOf(0, api.Shift{At: 1080, Offset: -60}, api.Shift{At: 1140, Offset: -120}, api.Shift{At: 1200, Offset: -180}),
		steps,
		waves,
		late,
	}
}

// randomZones returns zones whose shifts are at most distance minutes apart,
// from the instant start on.
func randomZones(seed int64, count, start, distance int) []api.Zone {
	random := rand.New(rand.NewSource(seed))
	var zones []api.Zone
	for range count {
		z := zoneOf(random.Intn(2*api.MaxOffset+1) - api.MaxOffset)
		at := start
		for range random.Intn(api.MaxShifts + 1) {
			at += 1 + random.Intn(distance)
			offset := random.Intn(2*api.MaxOffset+1) - api.MaxOffset
			if random.Intn(2) == 0 {
				offset = 60 * (random.Intn(5) - 2)
			}
			if at <= lastInstant {
				z.Shifts = append(z.Shifts, api.Shift{At: at, Offset: offset})
			}
		}
		zones = append(zones, z)
	}
	return zones
}

// allZones returns the zones on which the calls are compared with their
// definitions.
func allZones() []api.Zone {
	return slices.Concat(exampleZones(), randomZones(1, 40, -1, 300), randomZones(2, 20, -1, 20), randomZones(3, 20, lastInstant-3000, 300), randomZones(4, 20, -1, 5000000))
}

// offsetAt is the definition of the offset at an instant.
func offsetAt(z api.Zone, t int) int {
	offset := z.Offset
	for _, shift := range z.Shifts {
		if shift.At <= t {
			offset = shift.Offset
		}
	}
	return offset
}

// localTime is the definition of the local day and clock time at an instant.
func localTime(z api.Zone, t int) (int, int) {
	minute := t + offsetAt(z, t) + day
	return minute/day - 1, minute % day
}

// instantsOf returns instants around the shifts of a zone and at the ends of
// the range.
func instantsOf(z api.Zone) []int {
	var l []int
	add := func(t int) {
		for _, distance := range []int{-1441, -1440, -900, -60, -2, -1, 0, 1, 2, 60, 900, 1440, 1441} {
			if at := t + distance; 0 <= at && at <= lastInstant {
				l = append(l, at)
			}
		}
	}
	add(0)
	add(lastInstant)
	for _, shift := range z.Shifts {
		add(shift.At)
	}
	return l
}

type faultyZone struct {
	zone api.Zone
	want api.Errno
}

func faultyNames() []faultyZone {
	var l []faultyZone
	for _, name := range []string{"", "A", "1a", "_a", "aB", "a b", " a", "a ", "a-b", "a\n", "é", "a\x00", strings.Repeat("a", api.MaxName+1), strings.Repeat("a", 100000)} {
		l = append(l, faultyZone{api.Zone{Name: name}, api.ErrSyntax})
	}
	return l
}

func faultyOffsets() []faultyZone {
	var l []faultyZone
	for _, n := range []int{api.MaxOffset + 1, -api.MaxOffset - 1, 1000, -1000, 1 << 16, 1 << 32, 1<<32 + 60, -1 << 32, math.MinInt, math.MinInt + 1, math.MaxInt} {
		l = append(l,
			faultyZone{zoneOf(n), api.ErrRange},
			faultyZone{zoneOf(0, api.Shift{At: 5, Offset: n}), api.ErrRange},
			faultyZone{zoneOf(0, api.Shift{At: 5}, api.Shift{At: 6, Offset: n}, api.Shift{At: 7}), api.ErrRange},
			faultyZone{zoneOf(0, api.Shift{At: 5}, api.Shift{At: 6}, api.Shift{At: 7, Offset: n}), api.ErrRange})
	}
	return l
}

func faultyShifts() []faultyZone {
	var l []faultyZone
	for _, at := range []int{-1, api.MaxMinute, api.MaxMinute + 1, -1000, 1 << 26, 1 << 32, 1<<32 + 6, -1 << 32, math.MinInt, math.MaxInt} {
		l = append(l,
			faultyZone{zoneOf(0, api.Shift{At: at}), api.ErrRange},
			faultyZone{zoneOf(0, api.Shift{At: 5}, api.Shift{At: at}), api.ErrRange},
			faultyZone{zoneOf(0, api.Shift{At: 5}, api.Shift{At: at}, api.Shift{At: 9}), api.ErrRange})
	}
	return append(l,
		faultyZone{zoneOf(0, api.Shift{At: 0}, api.Shift{At: 0}), api.ErrOrder},
		faultyZone{zoneOf(0, api.Shift{At: 5}, api.Shift{At: 5, Offset: 60}), api.ErrOrder},
		faultyZone{zoneOf(0, api.Shift{At: 5}, api.Shift{At: 4}), api.ErrOrder},
		faultyZone{zoneOf(0, api.Shift{At: 5}, api.Shift{At: 9}, api.Shift{At: 9}), api.ErrOrder},
		faultyZone{zoneOf(0, api.Shift{At: 5}, api.Shift{At: 9}, api.Shift{At: 6}, api.Shift{At: 10}), api.ErrOrder},
		faultyZone{zoneOf(0, api.Shift{At: lastInstant}, api.Shift{At: lastInstant}), api.ErrOrder})
}

// zonesOfSeveralFaults returns zones to which several errors apply.
func zonesOfSeveralFaults() []faultyZone {
	wrong, right := make([]api.Shift, api.MaxShifts+1), make([]api.Shift, api.MaxShifts+1)
	for i := range right {
		wrong[i] = api.Shift{At: -1, Offset: 9999}
		right[i].At = i
	}
	swapped := slices.Clone(right[1:])
	swapped[0].At = 9
	return []faultyZone{
		{api.Zone{Name: "A", Offset: 841, Shifts: wrong}, api.ErrSyntax},
		{api.Zone{Offset: -841}, api.ErrSyntax},
		{api.Zone{Shifts: right}, api.ErrSyntax},
		{api.Zone{Shifts: []api.Shift{{At: -1}}}, api.ErrSyntax},
		{zoneOf(841, right...), api.ErrRange},
		{zoneOf(841, swapped...), api.ErrRange},
		{zoneOf(0, right...), api.ErrTooLarge},
		{zoneOf(0, wrong...), api.ErrTooLarge},
		{zoneOf(0, slices.Repeat([]api.Shift{{At: 7}}, 1000)...), api.ErrTooLarge},
		{zoneOf(0, swapped...), api.ErrOrder},
		{zoneOf(0, api.Shift{At: 5}, api.Shift{At: 4, Offset: 841}), api.ErrRange},
		{zoneOf(0, api.Shift{At: 5}, api.Shift{At: -1, Offset: 841}), api.ErrRange},
		{zoneOf(0, api.Shift{At: 5}, api.Shift{At: 4}, api.Shift{At: -7}), api.ErrOrder},
		{zoneOf(0, api.Shift{At: 5}, api.Shift{At: 4}, api.Shift{At: 9, Offset: 841}), api.ErrOrder},
		{zoneOf(0, api.Shift{At: 5}, api.Shift{At: -7}, api.Shift{At: -8}), api.ErrRange},
	}
}

func faultyZones() []faultyZone {
	return slices.Concat(faultyNames(), faultyOffsets(), faultyShifts(), zonesOfSeveralFaults())
}

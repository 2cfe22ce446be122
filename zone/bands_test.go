package zone_test

import (
	"math"
	"testing"

	"pairing/api"
	"pairing/zone"
)

// P7.5 and P7.6

// inBand is the definition of a band from one clock time to another.
func inBand(clock, from, to int) bool {
	if to < from {
		return clock >= from || clock < to
	}
	return from <= clock && clock < to
}

// bandLength counts the clock times of a band.
func bandLength(from, to int) int {
	n := 0
	for clock := range 1440 {
		if inBand(clock, from, to) {
			n++
		}
	}
	return n
}

// countBand looks at each instant of a span: it returns the minutes in the
// band and the number of complete nights.
func countBand(z api.Zone, s api.Span, from, to int) (minutes, nights int) {
	length := bandLength(from, to)
	run := 0
	end := func() {
		if length > 0 && run >= length {
			nights++
		}
		run = 0
	}
	shifts, offset := z.Shifts, z.Offset
	for at := s.From; at < s.To; at++ {
		for len(shifts) > 0 && shifts[0].At <= at {
			offset = shifts[0].Offset
			shifts = shifts[1:]
		}
		if !inBand((at+offset+1440)%1440, from, to) {
			end()
			continue
		}
		minutes++
		run++
	}
	end()
	return minutes, nights
}

func checkBand(t *testing.T, z api.Zone, s api.Span, from, to, minutes, nights int) {
	t.Helper()
	if n, e := zone.BandMinutes(z, s, from, to); n != minutes || e != api.OK {
		t.Errorf("BandMinutes(%v, %v, %d, %d): %d, error %d, want %d", z, s, from, to, n, e, minutes)
	}
	if n, e := zone.Nights(z, s, from, to); n != nights || e != api.OK {
		t.Errorf("Nights(%v, %v, %d, %d): %d, error %d, want %d", z, s, from, to, n, e, nights)
	}
}

func checkCounted(t *testing.T, z api.Zone, s api.Span, from, to int) {
	t.Helper()
	minutes, nights := countBand(z, s, from, to)
	checkBand(t, z, s, from, to, minutes, nights)
}

func TestBands(t *testing.T) {
	utc := zoneOf(0)
	for _, c := range []struct {
		s                         api.Span
		from, to, minutes, nights int
	}{
		{api.Span{To: 2880}, 1320, 360, 960, 1},
		{api.Span{From: 1320, To: 1800}, 1320, 360, 480, 1},
		{api.Span{From: 1321, To: 1800}, 1320, 360, 479, 0},
		{api.Span{From: 1320, To: 1799}, 1320, 360, 479, 0},
		{api.Span{From: 1319, To: 1801}, 1320, 360, 480, 1},
		{api.Span{From: 1800, To: 2760}, 1320, 360, 0, 0},
		{api.Span{To: 2880}, 600, 600, 0, 0},
		{api.Span{To: 2880}, 0, 0, 0, 0},
		{api.Span{To: 2880}, 1439, 1439, 0, 0},
		{api.Span{From: 5, To: 5}, 0, 720, 0, 0},
		{api.Span{}, 0, 1, 0, 0},
		{api.Span{From: api.MaxMinute, To: api.MaxMinute}, 0, 1, 0, 0},
		{api.Span{To: 1440}, 0, 1439, 1439, 1},
		{api.Span{To: 1439}, 0, 1439, 1439, 1},
		{api.Span{To: 1438}, 0, 1439, 1438, 0},
		{api.Span{To: 1440}, 0, 1, 1, 1},
		{api.Span{To: 1441}, 0, 1, 2, 2},
		{api.Span{To: 1440}, 1439, 0, 1, 1},
		{api.Span{To: 1439}, 1439, 0, 0, 0},
		{api.Span{To: 2880}, 1, 0, 2878, 2},
		{api.Span{To: 2880}, 720, 719, 2878, 1},
		{api.Span{To: api.MaxMinute}, 1320, 360, 36525 * 480, 36524},
		{api.Span{To: api.MaxMinute}, 360, 1320, 36525 * 960, 36525},
	} {
		checkBand(t, utc, c.s, c.from, c.to, c.minutes, c.nights)
	}
}

func TestBandsOfShiftedClocks(t *testing.T) {
	// Back within the band: one longer night.
	checkBand(t, zoneOf(0, api.Shift{At: 1080, Offset: -60}), api.Span{To: 1440}, 960, 1200, 300, 1)
	checkBand(t, zoneOf(0, api.Shift{At: 1080, Offset: -60}), api.Span{From: 1020, To: 1440}, 960, 1200, 240, 1)
	checkBand(t, zoneOf(0, api.Shift{At: 1080, Offset: -60}), api.Span{From: 1021, To: 1440}, 960, 1200, 239, 0)
	// Forward within the band: a shorter night, which is not complete.
	checkBand(t, zoneOf(0, api.Shift{At: 1020, Offset: 60}), api.Span{To: 1440}, 960, 1200, 180, 0)
	// Back from the end of the band into it: the instants are consecutive.
	checkBand(t, zoneOf(0, api.Shift{At: 1200, Offset: -60}), api.Span{To: 1440}, 960, 1200, 300, 1)
	checkBand(t, zoneOf(0, api.Shift{At: 1200, Offset: -240}), api.Span{To: 2000}, 960, 1200, 480, 1)
	// One instant later, the band was left.
	checkBand(t, zoneOf(0, api.Shift{At: 1201, Offset: -300}), api.Span{To: 1600}, 960, 1200, 480, 2)
	checkBand(t, zoneOf(0, api.Shift{At: 1201, Offset: -60}), api.Span{To: 1600}, 960, 1200, 299, 1)
	// Forward over the band, and over the gap between two bands.
	checkBand(t, zoneOf(0, api.Shift{At: 960, Offset: 240}), api.Span{To: 1440}, 960, 1200, 0, 0)
	checkBand(t, zoneOf(0, api.Shift{At: 1439, Offset: 1}), api.Span{To: 2878}, 0, 1439, 2878, 1)
	// Two halves of a night that lies in no span of one offset.
	checkBand(t, zoneOf(0, api.Shift{At: 100, Offset: 500}), api.Span{To: 700}, 0, 720, 220, 0)
	checkBand(t, zoneOf(0, api.Shift{At: 100, Offset: 0}), api.Span{To: 720}, 0, 720, 720, 1)
	// A clock that stands still is at its time in each of these instants.
	checkBand(t, zoneOf(0, api.Shift{At: 1, Offset: -1}, api.Shift{At: 2, Offset: -2}), api.Span{To: 100}, 0, 1, 3, 1)
}

// bandsOf returns bands with and without midnight, and those around the local
// clock times at the ends of a span.
func bandsOf(z api.Zone, s api.Span) [][2]int {
	_, a := localTime(z, s.From)
	_, b := localTime(z, min(s.To, lastInstant))
	return [][2]int{{0, 1}, {1439, 0}, {0, 1439}, {5, 5}, {300, 1000}, {1000, 300}, {700, 699}, {1320, 360}, {a, b}, {b, a}, {a, (a + 1) % 1440}, {(b + 1439) % 1440, b}, {(a + 1) % 1440, a}}
}

func TestBandsByCounting(t *testing.T) {
	for _, z := range allZones() {
		for _, start := range []int{0, 1, 299, 1440, 2000, lastInstant - 4000, lastInstant} {
			for _, length := range []int{0, 1, 300, 719, 1440, 1441, 4001} {
				s := api.Span{From: start, To: min(start+length, api.MaxMinute)}
				for _, band := range bandsOf(z, s) {
					checkCounted(t, z, s, band[0], band[1])
				}
			}
		}
	}
}

// Spans that begin and end beside the shifts.
func TestBandsBesideShifts(t *testing.T) {
	for _, z := range exampleZones() {
		l := instantsOf(z)
		for i, from := range l {
			for j := i % 3; j < len(l); j += 3 {
				if to := l[j]; from <= to && to-from < 4000 {
					s := api.Span{From: from, To: to}
					for _, band := range bandsOf(z, s)[4:] {
						checkCounted(t, z, s, band[0], band[1])
					}
				}
			}
		}
	}
}

func TestEveryBand(t *testing.T) {
	z := zoneOf(-30, api.Shift{At: 700, Offset: 30}, api.Shift{At: 1500, Offset: -200})
	for from := 0; from < 1440; from += 13 {
		for to := 0; to < 1440; to += 17 {
			checkCounted(t, z, api.Span{From: 10, To: 3100}, from, to)
		}
	}
	for clock := range 1440 {
		checkCounted(t, z, api.Span{From: 10, To: 3100}, clock, (clock+480)%1440)
		checkCounted(t, z, api.Span{From: 10, To: 3100}, clock, clock)
	}
}

func TestBandsOfAllInstants(t *testing.T) {
	all := api.Span{To: api.MaxMinute}
	yearly := zoneOf(0)
	for i := range api.MaxShifts {
		yearly.Shifts = append(yearly.Shifts, api.Shift{At: 1234567 + 262800*i, Offset: 60 * (i % 2)})
	}
	checkCounted(t, yearly, all, 1320, 360)
	checkCounted(t, zoneOf(840, api.Shift{At: 20000000, Offset: -840}), all, 0, 1439)
}

func TestBandsOfFaultySpans(t *testing.T) {
	for _, z := range exampleZones() {
		for _, s := range faultySpans() {
			checkBandError(t, z, s, 0, 1)
			checkBandError(t, z, s, 5, 5)
		}
	}
}

func TestFaultyBands(t *testing.T) {
	for _, n := range []int{-1, -2, -1440, 1440, 1441, 2880, 1 << 32, 1<<32 + 60, -1 << 32, math.MinInt, math.MinInt + 1, math.MaxInt} {
		for _, s := range []api.Span{{}, {To: 5}, {From: 9, To: 3000}, {From: 9, To: 8}} {
			for _, good := range []int{0, 600, 1439} {
				checkBandError(t, zoneOf(60), s, n, good)
				checkBandError(t, zoneOf(60), s, good, n)
			}
			checkBandError(t, zoneOf(60), s, n, n)
		}
	}
}

func checkBandError(t *testing.T, z api.Zone, s api.Span, from, to int) {
	t.Helper()
	if n, e := zone.BandMinutes(z, s, from, to); n != 0 || e != api.ErrRange {
		t.Errorf("BandMinutes(%v, %v, %d, %d): %d, error %d, want ErrRange", z, s, from, to, n, e)
	}
	if n, e := zone.Nights(z, s, from, to); n != 0 || e != api.ErrRange {
		t.Errorf("Nights(%v, %v, %d, %d): %d, error %d, want ErrRange", z, s, from, to, n, e)
	}
}

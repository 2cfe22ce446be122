package zone_test

import (
	"strings"
	"testing"

	"pairing/api"
	"pairing/text"
	"pairing/zone"
)

// P7.1

func TestValidate(t *testing.T) {
	for _, z := range allZones() {
		if e := zone.Validate(z); e != api.OK {
			t.Errorf("Validate(%v): error %d", z, e)
		}
	}
	for _, name := range []string{"a", "z", "utc", "a_", "a9", "east_2", strings.Repeat("z", api.MaxName)} {
		if e := zone.Validate(api.Zone{Name: name}); e != api.OK {
			t.Errorf("Validate of a zone %q: error %d", name, e)
		}
	}
	for _, c := range faultyZones() {
		if e := zone.Validate(c.zone); e != c.want {
			t.Errorf("Validate(%v): error %d, want error %d", c.zone, e, c.want)
		}
	}
}

func TestValidateNamesOfEveryByte(t *testing.T) {
	for c := range 256 {
		for _, name := range []string{string([]byte{byte(c)}), string([]byte{'a', byte(c)})} {
			want := api.ErrSyntax
			if text.IsName(name) {
				want = api.OK
			}
			if e := zone.Validate(api.Zone{Name: name}); e != want {
				t.Errorf("Validate of a zone %q: error %d, want error %d", name, e, want)
			}
		}
	}
}

func TestValidateOffsets(t *testing.T) {
	for n := -2000; n <= 2000; n++ {
		want := api.ErrRange
		if -840 <= n && n <= 840 {
			want = api.OK
		}
		for _, z := range []api.Zone{zoneOf(n), zoneOf(0, api.Shift{Offset: n})} {
			if e := zone.Validate(z); e != want {
				t.Errorf("Validate(%v): error %d, want error %d", z, e, want)
			}
		}
	}
}

func TestValidateNumbersOfShifts(t *testing.T) {
	var shifts []api.Shift
	for n := range 3 * api.MaxShifts {
		want := api.OK
		if n > 16 {
			want = api.ErrTooLarge
		}
		if e := zone.Validate(zoneOf(0, shifts...)); e != want {
			t.Errorf("Validate of a zone with %d shifts: error %d, want error %d", n, e, want)
		}
		shifts = append(shifts, api.Shift{At: 10 * n, Offset: n})
	}
}

// The error of the zone comes before those of the other arguments.
func TestFaultyZones(t *testing.T) {
	for _, c := range faultyZones() {
		for _, n := range []int{0, -1, api.MaxMinute} {
			s := api.Span{From: n, To: n}
			o, e1 := zone.OffsetAt(c.zone, n)
			m, e2 := zone.LocalMinute(c.zone, n)
			d, k, e3 := zone.LocalTime(c.zone, n)
			l, e4 := zone.Instants(c.zone, n, n)
			first, last, e5 := zone.LocalDays(c.zone, s)
			b, e6 := zone.BandMinutes(c.zone, s, n, n)
			nights, e7 := zone.Nights(c.zone, s, n, n)
			for i, e := range []api.Errno{e1, e2, e3, e4, e5, e6, e7} {
				if e != c.want {
					t.Errorf("call %d with %v and %d: error %d, want error %d", i, c.zone, n, e, c.want)
				}
			}
			if o != 0 || m != 0 || d != 0 || k != 0 || len(l) != 0 || first != 0 || last != 0 || b != 0 || nights != 0 {
				t.Errorf("results with %v and %d: %d, %d, %d, %d, %v, %d, %d, %d, %d", c.zone, n, o, m, d, k, l, first, last, b, nights)
			}
		}
	}
}

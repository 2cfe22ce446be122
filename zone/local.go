package zone

import (
	"pairing/api"
	"pairing/calendar"
)

func OffsetAt(z api.Zone, t int) (int, api.Errno) {
	if e := Validate(z); e != api.OK {
		return 0, e
	}
	if !isInstant(t) {
		return 0, api.ErrRange
	}
	offset := z.Offset
	for _, shift := range z.Shifts {
		if shift.At > t {
			break
		}
		offset = shift.Offset
	}
	return offset, api.OK
}

func LocalMinute(z api.Zone, t int) (int, api.Errno) {
	offset, e := OffsetAt(z, t)
	if e != api.OK {
		return 0, e
	}
	return t + offset, api.OK
}

func LocalTime(z api.Zone, t int) (day, clock int, e api.Errno) {
	minute, e := LocalMinute(z, t)
	if e != api.OK {
		return 0, 0, e
	}
	day, clock = calendar.SplitMinute(minute)
	return day, clock, api.OK
}

func LocalDays(z api.Zone, s api.Span) (first, last int, e api.Errno) {
	if e := Validate(z); e != api.OK {
		return 0, 0, e
	}
	if !isSpan(s) {
		return 0, 0, api.ErrRange
	}
	if s.From == s.To {
		return 0, 0, api.ErrOrder
	}
	first, _, e = LocalTime(z, s.From)
	if e != api.OK {
		return 0, 0, e
	}
	last, _, e = LocalTime(z, s.To-1)
	if e != api.OK {
		return 0, 0, e
	}
	return first, last, api.OK
}

package zone

import (
	"iter"

	"pairing/api"
)

// The local days of all instants, with any offset.
const (
	firstDay = -1
	lastDay  = api.MaxMinute / dayMinutes
)

func Instants(z api.Zone, day, clock int) ([]int, api.Errno) {
	if e := Validate(z); e != api.OK {
		return nil, e
	}
	if !isClock(clock) {
		return nil, api.ErrRange
	}
	// The local minute of a day far away could overflow.
	if day < firstDay || day > lastDay {
		return nil, api.OK
	}
	var instants []int
	for part, offset := range segments(z, api.Span{To: api.MaxMinute}) {
		t := day*dayMinutes + clock - offset
		if part.From <= t && t < part.To {
			instants = append(instants, t)
		}
	}
	return instants, api.OK
}

// segments yields the parts of a span between the shifts of a zone, in
// ascending order and without the empty ones, with their offsets.
func segments(z api.Zone, s api.Span) iter.Seq2[api.Span, int] {
	return func(yield func(api.Span, int) bool) {
		from, offset := s.From, z.Offset
		for _, shift := range z.Shifts {
			to := min(shift.At, s.To)
			if from < to {
				if !yield(api.Span{From: from, To: to}, offset) {
					return
				}
				from = to
			}
			offset = shift.Offset
		}
		if from < s.To {
			yield(api.Span{From: from, To: s.To}, offset)
		}
	}
}

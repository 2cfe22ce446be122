package zone

import (
	"iter"

	"pairing/api"
	"pairing/calendar"
)

// A band contains the clock times from its first one on, around midnight if
// need be.
type band struct {
	from   int
	length int
}

func BandMinutes(z api.Zone, s api.Span, from, to int) (int, api.Errno) {
	if e := validateBand(z, s, from, to); e != api.OK {
		return 0, e
	}
	minutes := 0
	for stay := range stays(z, s, makeBand(from, to)) {
		minutes += stay.To - stay.From
	}
	return minutes, api.OK
}

func Nights(z api.Zone, s api.Span, from, to int) (int, api.Errno) {
	if e := validateBand(z, s, from, to); e != api.OK {
		return 0, e
	}
	b := makeBand(from, to)
	nights := 0
	night := api.Span{}
	for stay := range stays(z, s, b) {
		if stay.From != night.To {
			nights += complete(night, b)
			night.From = stay.From
		}
		night.To = stay.To
	}
	return nights + complete(night, b), api.OK
}

func validateBand(z api.Zone, s api.Span, from, to int) api.Errno {
	if e := Validate(z); e != api.OK {
		return e
	}
	if !isSpan(s) || !isClock(from) || !isClock(to) {
		return api.ErrRange
	}
	return api.OK
}

func makeBand(from, to int) band {
	_, length := calendar.SplitMinute(to - from)
	return band{from, length}
}

// complete returns the number of complete nights, 0 or 1, of a maximal stay.
func complete(night api.Span, b band) int {
	if b.length > 0 && night.To-night.From >= b.length {
		return 1
	}
	return 0
}

// stays yields, in ascending order, spans of the instants in s whose local
// clock times are in the band. Two of them may adjoin where the offset shifts.
func stays(z api.Zone, s api.Span, b band) iter.Seq[api.Span] {
	return func(yield func(api.Span) bool) {
		for part, offset := range segments(z, s) {
			_, since := calendar.SplitMinute(part.From + offset - b.from)
			for start := part.From - since; start < part.To; start += dayMinutes {
				stay := api.Span{From: max(start, part.From), To: min(start+b.length, part.To)}
				if stay.From < stay.To && !yield(stay) {
					return
				}
			}
		}
	}
}

// Package limits checks arguments against the limits of package api, for the layers that have the same checks.
package limits

import "shapesearch/api"

// Sample reports whether a number is a sample.
func Sample(n int) bool {
	return n >= -api.MaxSample && n <= api.MaxSample
}

// Samples reports whether all numbers of a list are samples.
func Samples(l []int) bool {
	for _, n := range l {
		if !Sample(n) {
			return false
		}
	}
	return true
}

// Values reports whether all numbers of a list are samples or missing.
func Values(l []int) bool {
	for _, n := range l {
		if !Sample(n) && n != api.Missing {
			return false
		}
	}
	return true
}

// Length reports whether windows can have so many samples.
func Length(m int) bool {
	return m >= 2 && m <= api.MaxWindow
}

// Window returns the error of a list that is to be a window.
func Window(x []int) api.Errno {
	if !Length(len(x)) {
		return api.ErrLength
	}
	if !Samples(x) {
		return api.ErrSample
	}
	return api.OK
}

// Windows returns the first error of two lists that are to be windows, whose lengths may differ by at most band.
func Windows(x, y []int, band int) api.Errno {
	if !Length(len(x)) || !Length(len(y)) {
		return api.ErrLength
	}
	if !Samples(x) || !Samples(y) {
		return api.ErrSample
	}
	if len(x)-len(y) > band || len(y)-len(x) > band {
		return api.ErrLength
	}
	return api.OK
}

// Warped returns the first error of two lists that are to be windows which fit a band (chapter 14).
func Warped(x, y []int, band int) api.Errno {
	if band < 0 || band > api.MaxWindow {
		return api.ErrRange
	}
	return Windows(x, y, band)
}

// Pieces returns the error of dividing m samples into n pieces.
func Pieces(m, n int) api.Errno {
	if n < 1 || n > api.MaxPieces || n > m {
		return api.ErrRange
	}
	return api.OK
}

// Reading reports whether a reading is valid.
func Reading(r api.Reading) bool {
	return r.Time >= 0 && r.Time <= api.MaxTime && Sample(r.Value)
}

// Readings returns the first error of a list of readings.
func Readings(l []api.Reading) api.Errno {
	if len(l) > api.MaxReadings {
		return api.ErrLimit
	}
	for _, r := range l {
		if !Reading(r) {
			return api.ErrRange
		}
	}
	return api.OK
}

// Count returns the error of a number of answers.
func Count(n int) api.Errno {
	if n < 1 || n > api.MaxAnswers {
		return api.ErrCount
	}
	return api.OK
}

// Zone returns the error of a zone.
func Zone(n int) api.Errno {
	if n < 1 || n > api.MaxZone {
		return api.ErrZone
	}
	return api.OK
}

// Package plane is layer 1: stripe units on the complex plane. See shared/doc/01-plane.md.
package plane

import "lamella/api"

// Place is where a unit lies.
func Place(k, n int) (complex128, api.Errno) {
	if !columns(n) || k < 0 || k >= n*api.MaxPlace {
		return 0, api.ErrArg
	}
	return complex(float64(k%n), float64(k/n)), api.OK
}

// Unit is which unit lies at a place.
func Unit(z complex128, n int) (int, bool) {
	if !columns(n) {
		return 0, false
	}
	column, ok := whole(real(z), n)
	if !ok {
		return 0, false
	}
	row, ok := whole(imag(z), api.MaxPlace)
	if !ok {
		return 0, false
	}
	return row*n + column, true
}

// Step is the next unit's place.
func Step(z complex128, n int) (complex128, bool) {
	if _, ok := Unit(z, n); !ok {
		return 0, false
	}
	z += 1
	if real(z) == float64(n) {
		z += complex(-float64(n), 1)
	}
	if imag(z) == api.MaxPlace {
		return 0, false
	}
	return z, true
}

// Turn moves a place's column.
func Turn(z complex128, t, n int) (complex128, bool) {
	if _, ok := Unit(z, n); !ok {
		return 0, false
	}
	z += complex(float64(forward(t, n)), 0)
	if real(z) >= float64(n) {
		z -= complex(float64(n), 0)
	}
	return z, true
}

// Server is which server a unit is on.
func Server(k, t, n int) (int, api.Errno) {
	z, err := Place(k, n)
	if err != api.OK {
		return 0, err
	}
	z, _ = Turn(z, t, n)
	return 1 + int(real(z)), api.OK
}

// Between is how many units lie between two places.
func Between(a, b complex128, n int) (int, bool) {
	from, ok := Unit(a, n)
	if !ok {
		return 0, false
	}
	to, ok := Unit(b, n)
	if !ok {
		return 0, false
	}
	return to - from, true
}

// columns tells whether there may be n columns.
func columns(n int) bool {
	return n >= 1 && n <= api.MaxServers
}

// whole is a part of a place as an integer from 0 to limit - 1.
// The range is looked at first, since only then the conversion is defined; NaN fails there too.
func whole(part float64, limit int) (int, bool) {
	if !(part >= 0 && part < float64(limit)) {
		return 0, false
	}
	k := int(part)
	if float64(k) != part {
		return 0, false
	}
	return k, true
}

// forward is the turn from 0 to n - 1 that equals a turn by t.
// It is taken before anything is added, so that no t overflows.
func forward(t, n int) int {
	t %= n
	if t < 0 {
		t += n
	}
	return t
}

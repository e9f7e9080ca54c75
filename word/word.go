// Package word is layer 1: see shared/doc/01-word.md.
package word

import "vizard/api"

// maxSize is how many bytes the greatest number has.
const maxSize = 8

// At: the number at a place.
func At(b []byte, at, size int) (uint64, api.Errno) {
	if !isSize(size) || at < 0 {
		return 0, api.ErrRange
	}
	if !reaches(len(b), at, size) {
		return 0, api.ErrEnd
	}
	v := uint64(0)
	for _, x := range b[at : at+size] {
		v = v<<8 | uint64(x)
	}
	return v, api.OK
}

// Lay: bytes with a number laid at a place.
func Lay(b []byte, at, size int, v uint64) ([]byte, api.Errno) {
	// Row tells of a wrong size or number ahead of Patch's ErrEnd, as the chapter orders them.
	part, e := Row(size, v)
	if e != api.OK {
		return nil, e
	}
	return Patch(b, at, part)
}

// Cut: bytes from a place up to another one.
func Cut(b []byte, from, to int) ([]byte, api.Errno) {
	if from < 0 || to < from {
		return nil, api.ErrRange
	}
	if to > len(b) {
		return nil, api.ErrEnd
	}
	return fresh(b[from:to]), api.OK
}

// Row: numbers of one size.
func Row(size int, list ...uint64) ([]byte, api.Errno) {
	if !isSize(size) {
		return nil, api.ErrRange
	}
	for _, v := range list {
		if !fits(v, size) {
			return nil, api.ErrRange
		}
	}
	out := make([]byte, size*len(list))
	for i, v := range list {
		put(out[i*size:(i+1)*size], v)
	}
	return out, api.OK
}

// Patch: bytes with others laid over them.
func Patch(b []byte, at int, part []byte) ([]byte, api.Errno) {
	if at < 0 {
		return nil, api.ErrRange
	}
	if !reaches(len(b), at, len(part)) {
		return nil, api.ErrEnd
	}
	out := fresh(b)
	copy(out[at:], part)
	return out, api.OK
}

// isSize: may a number have so many bytes?
func isSize(size int) bool {
	return size >= 1 && size <= maxSize
}

// fits: has the number no more bytes than the size?
func fits(v uint64, size int) bool {
	return v>>uint(8*size) == 0
}

// reaches: do so many bytes have all of a part of this size at this place?
func reaches(length, at, size int) bool {
	// Not at+size <= length: a place near the greatest int would wrap round.
	return at <= length-size
}

// put lays a number over a whole field, the highest byte first.
func put(field []byte, v uint64) {
	for i := len(field) - 1; i >= 0; i-- {
		field[i] = byte(v)
		v >>= 8
	}
}

// fresh: the same bytes in memory of their own.
func fresh(b []byte) []byte {
	// Not a piece of b: the answer, and its spare room, must be new memory.
	out := make([]byte, len(b))
	copy(out, b)
	return out
}

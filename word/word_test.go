package word

import (
	"bytes"
	"math"
	"slices"
	"testing"

	"vizard/api"
)

// nine is one byte longer than the greatest number, so that size 9 would fit but for its bound.
func nine() []byte { return []byte{0x01, 0x23, 0x45, 0x67, 0x89, 0xab, 0xcd, 0xef, 0xff} }

// P1.1: At.
func TestAt(t *testing.T) {
	for _, c := range []struct {
		name     string
		b        []byte
		at, size int
		want     uint64
		err      api.Errno
	}{
		{"the chapter's example", []byte{1, 2, 3}, 1, 2, 515, api.OK},
		{"size 1, first", nine(), 0, 1, 0x01, api.OK},
		{"size 1, last", nine(), 8, 1, 0xff, api.OK},
		{"size 2", nine(), 3, 2, 0x6789, api.OK},
		{"size 3", nine(), 0, 3, 0x012345, api.OK},
		{"size 4", nine(), 5, 4, 0xabcdefff, api.OK},
		{"size 5", nine(), 1, 5, 0x23456789ab, api.OK},
		{"size 6", nine(), 2, 6, 0x456789abcdef, api.OK},
		{"size 7", nine(), 2, 7, 0x456789abcdefff, api.OK},
		{"size 8, first", nine(), 0, 8, 0x0123456789abcdef, api.OK},
		{"size 8, last", nine(), 1, 8, 0x23456789abcdefff, api.OK},
		{"greatest", slices.Repeat([]byte{255}, 8), 0, 8, math.MaxUint64, api.OK},
		{"zero", make([]byte, 8), 0, 8, 0, api.OK},
		{"size 0", nine(), 0, 0, 0, api.ErrRange},
		{"size 9", nine(), 0, 9, 0, api.ErrRange},
		{"size below 0", nine(), 4, -1, 0, api.ErrRange},
		{"least size", nine(), 4, math.MinInt, 0, api.ErrRange},
		{"greatest size", nine(), 4, math.MaxInt, 0, api.ErrRange},
		{"place below 0", nine(), -1, 1, 0, api.ErrRange},
		{"least place", nine(), math.MinInt, 8, 0, api.ErrRange},
		{"one byte too few", nine(), 2, 8, 0, api.ErrEnd},
		{"at the end", nine(), 9, 1, 0, api.ErrEnd},
		{"beyond the end", nine(), 10, 1, 0, api.ErrEnd},
		{"greatest place", nine(), math.MaxInt, 8, 0, api.ErrEnd},
		{"place whose end wraps round", nine(), math.MaxInt - 7, 8, 0, api.ErrEnd},
		{"nil", nil, 0, 1, 0, api.ErrEnd},
		{"empty", []byte{}, 0, 8, 0, api.ErrEnd},
		{"ErrRange of the size ahead of ErrEnd", nine(), 9, 9, 0, api.ErrRange},
		{"ErrRange of size 0 ahead of ErrEnd", nil, 1, 0, 0, api.ErrRange},
		{"ErrRange of the place ahead of ErrEnd", nil, -1, 1, 0, api.ErrRange},
		{"ErrRange twice", nine(), -1, 0, 0, api.ErrRange},
	} {
		if v, e := At(c.b, c.at, c.size); v != c.want || e != c.err {
			t.Errorf("%s: %#x, %d; want %#x, %d", c.name, v, e, c.want, c.err)
		}
	}
}

// P1.1: a number doesn't reach into what lies behind the length of its bytes.
func TestAtEndsAtTheLength(t *testing.T) {
	if v, e := At(nine()[:3], 2, 2); v != 0 || e != api.ErrEnd {
		t.Errorf("%#x, %d", v, e)
	}
}

// P1.1: Lay.
func TestLay(t *testing.T) {
	for _, c := range []struct {
		name     string
		b        []byte
		at, size int
		v        uint64
		want     []byte
		err      api.Errno
	}{
		{"the chapter's example", []byte{7, 8, 3}, 0, 2, 258, []byte{1, 2, 3}, api.OK},
		{"size 1, greatest", []byte{1, 2, 3}, 1, 1, 255, []byte{1, 255, 3}, api.OK},
		{"size 1, zero, last", []byte{1, 2, 3}, 2, 1, 0, []byte{1, 2, 0}, api.OK},
		{"a small number in a great size", []byte{9, 9, 9, 9}, 0, 4, 5, []byte{0, 0, 0, 5}, api.OK},
		{"size 3, greatest", []byte{9, 9, 9, 9}, 1, 3, 1<<24 - 1, []byte{9, 255, 255, 255}, api.OK},
		{"size 7, greatest", make([]byte, 7), 0, 7, 1<<56 - 1, slices.Repeat([]byte{255}, 7), api.OK},
		{"size 8", nine(), 1, 8, 0x0807060504030201, []byte{1, 8, 7, 6, 5, 4, 3, 2, 1}, api.OK},
		{"size 8, greatest", make([]byte, 8), 0, 8, math.MaxUint64, slices.Repeat([]byte{255}, 8), api.OK},
		{"size 0", nine(), 0, 0, 0, nil, api.ErrRange},
		{"size 9", nine(), 0, 9, 1, nil, api.ErrRange},
		{"least size", nine(), 0, math.MinInt, 0, nil, api.ErrRange},
		{"greatest size", nine(), 0, math.MaxInt, 0, nil, api.ErrRange},
		{"place below 0", nine(), -1, 1, 1, nil, api.ErrRange},
		{"least place", nine(), math.MinInt, 8, 1, nil, api.ErrRange},
		{"more bytes than size 1", nine(), 0, 1, 256, nil, api.ErrRange},
		{"more bytes than size 3", nine(), 0, 3, 1 << 24, nil, api.ErrRange},
		{"more bytes than size 7", nine(), 0, 7, 1 << 56, nil, api.ErrRange},
		{"one byte too few", nine(), 2, 8, 1, nil, api.ErrEnd},
		{"at the end", nine(), 9, 1, 1, nil, api.ErrEnd},
		{"beyond the end", nine(), 10, 1, 1, nil, api.ErrEnd},
		{"greatest place", nine(), math.MaxInt, 8, 1, nil, api.ErrEnd},
		{"nil", nil, 0, 1, 1, nil, api.ErrEnd},
		{"ErrRange of the number ahead of ErrEnd", nine(), 9, 1, 256, nil, api.ErrRange},
		{"ErrRange of the size ahead of ErrEnd", nil, 0, 9, 1, nil, api.ErrRange},
		{"ErrRange of the place ahead of ErrEnd", nil, -1, 1, 1, nil, api.ErrRange},
	} {
		if x, e := Lay(c.b, c.at, c.size, c.v); !bytes.Equal(x, c.want) || e != c.err {
			t.Errorf("%s: %v, %d; want %v, %d", c.name, x, e, c.want, c.err)
		}
	}
}

// P1.2: Cut.
func TestCut(t *testing.T) {
	for _, c := range []struct {
		name     string
		b        []byte
		from, to int
		want     []byte
		err      api.Errno
	}{
		{"the middle", []byte{1, 2, 3, 4}, 1, 3, []byte{2, 3}, api.OK},
		{"the first", []byte{1, 2, 3, 4}, 0, 1, []byte{1}, api.OK},
		{"the last", []byte{1, 2, 3, 4}, 3, 4, []byte{4}, api.OK},
		{"all", []byte{1, 2, 3, 4}, 0, 4, []byte{1, 2, 3, 4}, api.OK},
		{"none at the beginning", []byte{1, 2}, 0, 0, nil, api.OK},
		{"none in the middle", []byte{1, 2}, 1, 1, nil, api.OK},
		{"none at the end", []byte{1, 2}, 2, 2, nil, api.OK},
		{"none of nil", nil, 0, 0, nil, api.OK},
		{"from below 0", []byte{1, 2}, -1, 1, nil, api.ErrRange},
		{"least from", []byte{1, 2}, math.MinInt, 1, nil, api.ErrRange},
		{"to below from", []byte{1, 2}, 2, 1, nil, api.ErrRange},
		{"to below 0", []byte{1, 2}, 0, -1, nil, api.ErrRange},
		{"both below 0", []byte{1, 2}, -2, -1, nil, api.ErrRange},
		{"to beyond the end", []byte{1, 2}, 0, 3, nil, api.ErrEnd},
		{"none beyond the end", []byte{1, 2}, 3, 3, nil, api.ErrEnd},
		{"greatest to", []byte{1, 2}, 0, math.MaxInt, nil, api.ErrEnd},
		{"one of nil", nil, 0, 1, nil, api.ErrEnd},
		{"ErrRange of from ahead of ErrEnd", []byte{1, 2}, -1, 3, nil, api.ErrRange},
		{"ErrRange of to ahead of ErrEnd", []byte{1, 2}, 9, 8, nil, api.ErrRange},
	} {
		if x, e := Cut(c.b, c.from, c.to); !bytes.Equal(x, c.want) || e != c.err {
			t.Errorf("%s: %v, %d; want %v, %d", c.name, x, e, c.want, c.err)
		}
	}
}

// P1.2: what lies behind the length isn't there to be cut.
func TestCutEndsAtTheLength(t *testing.T) {
	if x, e := Cut(nine()[:3], 0, 4); len(x) != 0 || e != api.ErrEnd {
		t.Errorf("%v, %d", x, e)
	}
}

// P1.2: Row.
func TestRow(t *testing.T) {
	for _, c := range []struct {
		name string
		size int
		list []uint64
		want []byte
		err  api.Errno
	}{
		{"two of size 2", 2, []uint64{1, 258}, []byte{0, 1, 1, 2}, api.OK},
		{"three of size 1", 1, []uint64{0, 7, 255}, []byte{0, 7, 255}, api.OK},
		{"two of size 3", 3, []uint64{1<<24 - 1, 0x010203}, []byte{255, 255, 255, 1, 2, 3}, api.OK},
		{"one of size 8", 8, []uint64{0x0102030405060708}, []byte{1, 2, 3, 4, 5, 6, 7, 8}, api.OK},
		{"two of size 8", 8, []uint64{math.MaxUint64, 1}, []byte{255, 255, 255, 255, 255, 255, 255, 255, 0, 0, 0, 0, 0, 0, 0, 1}, api.OK},
		{"none of size 1", 1, nil, nil, api.OK},
		{"none of size 8", 8, []uint64{}, nil, api.OK},
		{"none of size 0", 0, nil, nil, api.ErrRange},
		{"none of size 9", 9, nil, nil, api.ErrRange},
		{"size 0", 0, []uint64{0}, nil, api.ErrRange},
		{"size 9", 9, []uint64{1}, nil, api.ErrRange},
		{"least size", math.MinInt, []uint64{1, 2}, nil, api.ErrRange},
		{"greatest size", math.MaxInt, []uint64{1, 2}, nil, api.ErrRange},
		{"the first has more bytes", 1, []uint64{256, 1}, nil, api.ErrRange},
		{"the last has more bytes", 2, []uint64{1, 2, 65536}, nil, api.ErrRange},
		{"more bytes than size 7", 7, []uint64{1 << 56}, nil, api.ErrRange},
	} {
		if x, e := Row(c.size, c.list...); !bytes.Equal(x, c.want) || e != c.err {
			t.Errorf("%s: %v, %d; want %v, %d", c.name, x, e, c.want, c.err)
		}
	}
}

// P1.2: Patch.
func TestPatch(t *testing.T) {
	for _, c := range []struct {
		name string
		b    []byte
		at   int
		part []byte
		want []byte
		err  api.Errno
	}{
		{"the beginning", []byte{1, 2, 3}, 0, []byte{9, 8}, []byte{9, 8, 3}, api.OK},
		{"the middle", []byte{1, 2, 3}, 1, []byte{9}, []byte{1, 9, 3}, api.OK},
		{"the end", []byte{1, 2, 3}, 1, []byte{9, 8}, []byte{1, 9, 8}, api.OK},
		{"all", []byte{1, 2, 3}, 0, []byte{9, 8, 7}, []byte{9, 8, 7}, api.OK},
		{"nothing at the beginning", []byte{1, 2, 3}, 0, nil, []byte{1, 2, 3}, api.OK},
		{"nothing in the middle", []byte{1, 2, 3}, 1, []byte{}, []byte{1, 2, 3}, api.OK},
		{"nothing at the end", []byte{1, 2, 3}, 3, nil, []byte{1, 2, 3}, api.OK},
		{"nothing over nil", nil, 0, nil, nil, api.OK},
		{"nothing beyond the end", []byte{1, 2, 3}, 4, nil, nil, api.ErrEnd},
		{"nothing beyond nil", nil, 1, []byte{}, nil, api.ErrEnd},
		{"nothing at the greatest place", nil, math.MaxInt, nil, nil, api.ErrEnd},
		{"one beyond the end", []byte{1, 2, 3}, 2, []byte{9, 8}, nil, api.ErrEnd},
		{"at the end", []byte{1, 2, 3}, 3, []byte{9}, nil, api.ErrEnd},
		{"longer than the bytes", []byte{1, 2, 3}, 0, []byte{9, 8, 7, 6}, nil, api.ErrEnd},
		{"over nil", nil, 0, []byte{9}, nil, api.ErrEnd},
		{"the greatest place", []byte{1, 2, 3}, math.MaxInt, []byte{9}, nil, api.ErrEnd},
		{"below 0", []byte{1, 2, 3}, -1, []byte{9}, nil, api.ErrRange},
		{"nothing below 0", []byte{1, 2, 3}, -1, nil, nil, api.ErrRange},
		{"the least place", []byte{1, 2, 3}, math.MinInt, []byte{9}, nil, api.ErrRange},
		{"ErrRange ahead of ErrEnd", []byte{1}, -1, []byte{9, 8, 7}, nil, api.ErrRange},
	} {
		if x, e := Patch(c.b, c.at, c.part); !bytes.Equal(x, c.want) || e != c.err {
			t.Errorf("%s: %v, %d; want %v, %d", c.name, x, e, c.want, c.err)
		}
	}
}

// greatest: the greatest number of a size.
func greatest(size int) uint64 { return math.MaxUint64 >> (64 - 8*size) }

// P1.3: what Lay lays is there, at every place and size, and nowhere else.
func TestLaidIsThere(t *testing.T) {
	for size := 1; size <= 8; size++ {
		for at := 0; at+size <= 9; at++ {
			for _, v := range []uint64{0, 1, 0x8877665544332211 & greatest(size), greatest(size)} {
				x, e := Lay(nine(), at, size, v)
				if e != api.OK || len(x) != 9 {
					t.Fatal(at, size, v, x, e)
				}
				if got, e := At(x, at, size); got != v || e != api.OK {
					t.Errorf("at %d, size %d: %#x, %d; want %#x", at, size, got, e, v)
				}
				if !bytes.Equal(x[:at], nine()[:at]) || !bytes.Equal(x[at+size:], nine()[at+size:]) {
					t.Errorf("at %d, size %d: other bytes changed: %v", at, size, x)
				}
			}
		}
	}
}

// P1.3: what Patch lays is there, at every place and length, and nowhere else.
func TestPatchedIsThere(t *testing.T) {
	for n := 0; n <= 9; n++ {
		part := slices.Repeat([]byte{0x5a}, n)
		for at := 0; at+n <= 9; at++ {
			x, e := Patch(nine(), at, part)
			if e != api.OK || len(x) != 9 {
				t.Fatal(at, n, x, e)
			}
			if got, e := Cut(x, at, at+n); !bytes.Equal(got, part) || e != api.OK {
				t.Errorf("at %d, %d bytes: %v, %d", at, n, got, e)
			}
			if !bytes.Equal(x[:at], nine()[:at]) || !bytes.Equal(x[at+n:], nine()[at+n:]) {
				t.Errorf("at %d, %d bytes: other bytes changed: %v", at, n, x)
			}
		}
	}
}

// P1.3: each number of a row stands at its own place.
func TestRowIsThere(t *testing.T) {
	for size := 1; size <= 8; size++ {
		list := []uint64{greatest(size), 0, 1, 0x0123456789abcdef & greatest(size)}
		x, e := Row(size, list...)
		if e != api.OK || len(x) != size*len(list) {
			t.Fatal(size, x, e)
		}
		for i, v := range list {
			if got, e := At(x, i*size, size); got != v || e != api.OK {
				t.Errorf("size %d, number %d: %#x, %d; want %#x", size, i, got, e, v)
			}
		}
	}
}

// scribble writes over all of an answer's memory, its spare room too: whatever else is seen to change shares it.
func scribble(x []byte) {
	for i := range x[:cap(x)] {
		x[:cap(x)][i] ^= 0xff
	}
}

// P1.3: each call leaves what it is given as it was, what lies behind its length too, and shares nothing with it.
func TestNothingIsChangedOrShared(t *testing.T) {
	own := nine()
	part := []byte{9, 8, 7, 6}
	list := []uint64{1, 2, 3, 4}
	for _, c := range []struct {
		name string
		call func() ([]byte, api.Errno)
		err  api.Errno
	}{
		{"Lay", func() ([]byte, api.Errno) { return Lay(own[:5], 1, 4, 0x01020304) }, api.OK},
		{"Lay of what was there", func() ([]byte, api.Errno) { return Lay(own[:5], 0, 1, 1) }, api.OK},
		{"Lay beyond the length", func() ([]byte, api.Errno) { return Lay(own[:5], 4, 2, 1) }, api.ErrEnd},
		{"Lay of too much", func() ([]byte, api.Errno) { return Lay(own[:5], 0, 1, 256) }, api.ErrRange},
		{"Cut", func() ([]byte, api.Errno) { return Cut(own[:5], 1, 4) }, api.OK},
		{"Cut of all", func() ([]byte, api.Errno) { return Cut(own[:5], 0, 5) }, api.OK},
		{"Cut of none", func() ([]byte, api.Errno) { return Cut(own[:5], 2, 2) }, api.OK},
		{"Cut beyond the length", func() ([]byte, api.Errno) { return Cut(own[:5], 0, 6) }, api.ErrEnd},
		{"Row", func() ([]byte, api.Errno) { return Row(2, list[:3]...) }, api.OK},
		{"Row of none", func() ([]byte, api.Errno) { return Row(2, list[:0]...) }, api.OK},
		{"Row of too much", func() ([]byte, api.Errno) { return Row(9, list[:3]...) }, api.ErrRange},
		{"Patch", func() ([]byte, api.Errno) { return Patch(own[:5], 1, part[:3]) }, api.OK},
		{"Patch of all", func() ([]byte, api.Errno) { return Patch(own[:4], 0, part) }, api.OK},
		{"Patch with none", func() ([]byte, api.Errno) { return Patch(own[:5], 5, part[:0]) }, api.OK},
		{"Patch of none with none", func() ([]byte, api.Errno) { return Patch(own[:0], 0, part[:0]) }, api.OK},
		{"Patch with its own bytes", func() ([]byte, api.Errno) { return Patch(own[:5], 1, own[:4]) }, api.OK},
		{"Patch beyond the length", func() ([]byte, api.Errno) { return Patch(own[:5], 4, part[:2]) }, api.ErrEnd},
	} {
		first, e := c.call()
		if e != c.err {
			t.Errorf("%s: %d", c.name, e)
		}
		want := bytes.Clone(first)
		second, _ := c.call()
		scribble(first)
		if !bytes.Equal(second, want) {
			t.Errorf("%s: two answers share memory", c.name)
		}
		if !bytes.Equal(own, nine()) || !bytes.Equal(part, []byte{9, 8, 7, 6}) || !slices.Equal(list, []uint64{1, 2, 3, 4}) {
			t.Fatalf("%s: what was handed in is changed: %v %v %v", c.name, own, part, list)
		}
	}
}

// P1.3: Patch lays the part as it was handed in, where it overlaps the bytes too.
func TestPatchWithItsOwnBytes(t *testing.T) {
	b := []byte{1, 2, 3, 4, 5}
	if x, e := Patch(b, 1, b[:4]); !bytes.Equal(x, []byte{1, 1, 2, 3, 4}) || e != api.OK {
		t.Errorf("%v, %d", x, e)
	}
	if x, e := Patch(b, 0, b[1:]); !bytes.Equal(x, []byte{2, 3, 4, 5, 5}) || e != api.OK {
		t.Errorf("%v, %d", x, e)
	}
}

// P1: no call panics, at any numbers, and an error comes with nothing else.
func TestEveryCallEnds(t *testing.T) {
	numbers := []int{math.MinInt, math.MinInt + 1, -9, -8, -1, 0, 1, 2, 7, 8, 9, 10, math.MaxInt - 8, math.MaxInt - 7, math.MaxInt - 1, math.MaxInt}
	values := []uint64{0, 1, 255, 256, 1<<56 - 1, 1 << 56, math.MaxUint64}
	check := func(name string, x []byte, e api.Errno) {
		if e != api.OK && len(x) != 0 {
			t.Errorf("%s: %v beside %d", name, x, e)
		}
	}
	for _, b := range [][]byte{nil, {}, {1}, nine()[:8], nine()} {
		for _, n := range numbers {
			for _, m := range numbers {
				if v, e := At(b, n, m); e != api.OK && v != 0 {
					t.Errorf("At: %d beside %d", v, e)
				}
				for _, v := range values {
					x, e := Lay(b, n, m, v)
					check("Lay", x, e)
				}
				x, e := Cut(b, n, m)
				check("Cut", x, e)
			}
			for _, part := range [][]byte{nil, {}, {1}, nine()} {
				x, e := Patch(b, n, part)
				check("Patch", x, e)
			}
			x, e := Row(n, values...)
			check("Row", x, e)
		}
	}
}

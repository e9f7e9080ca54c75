package sum

import (
	"bytes"
	"slices"
	"testing"

	"vizard/api"
)

// edges are the numbers of 16 bits at which adding could go wrong.
func edges() []uint16 {
	return []uint16{0, 1, 2, 0xff, 0x100, 0x101, 0x7ffe, 0x7fff, 0x8000, 0x8001, 0xfeff, 0xff00, 0xff01, 0xfffd, 0xfffe, 0xffff}
}

// head is a header of a packet without its sum, at places 10 and 11.
func head() []byte {
	return []byte{0x45, 0, 0, 0x73, 0, 0, 0x40, 0, 0x40, 0x11, 0, 0, 0xc0, 0xa8, 0, 1, 0xc0, 0xa8, 0, 0xc7}
}

// wholeHead is that header with its own sum among its bytes.
func wholeHead() []byte {
	b := head()
	b[10], b[11] = 0xb8, 0x61
	return b
}

// noise: bytes without a pattern, the same ones each time.
func noise(seed uint32, count int) []byte {
	b := make([]byte, count)
	for i := range b {
		seed = seed*1664525 + 1013904223
		b[i] = byte(seed >> 24)
	}
	return b
}

// plainTotal: the total by numbers without end: the sum of all pairs, brought into 1 to 65,535 by its rest, or 0 of zeros.
func plainTotal(b []byte) uint16 {
	n := uint64(0)
	for i, x := range b {
		if i%2 == 0 {
			n += uint64(x) * 256
		} else {
			n += uint64(x)
		}
	}
	if n == 0 {
		return 0
	}
	return uint16((n-1)%65535 + 1)
}

// P3.1: Add.
func TestAdd(t *testing.T) {
	for _, c := range []struct{ a, b, want uint16 }{
		{0, 0, 0},
		{0, 1, 1},
		{1, 2, 3},
		{0xff, 1, 0x100},
		{0, 65535, 65535},
		{1, 65534, 65535},
		{0x7fff, 0x8000, 65535},
		{0x8000, 0x8000, 1},
		{1, 65535, 1},
		{2, 65534, 1},
		{65534, 65534, 65533},
		{65534, 65535, 65534},
		{65535, 65535, 65535},
		{0xddf2, 0x220d, 65535},
		{0xddf2, 0x220e, 1},
	} {
		if n := Add(c.a, c.b); n != c.want {
			t.Errorf("Add(%#x, %#x): %#x, want %#x", c.a, c.b, n, c.want)
		}
		if n := Add(c.b, c.a); n != c.want {
			t.Errorf("Add(%#x, %#x): %#x, want %#x", c.b, c.a, n, c.want)
		}
	}
}

// P3.1: Add, of each number and the edges.
func TestAddAll(t *testing.T) {
	for _, a := range edges() {
		for b := 0; b < 65536; b++ {
			want := int(a) + b
			if want > 65535 {
				want -= 65535
			}
			if n := Add(a, uint16(b)); int(n) != want {
				t.Fatalf("Add(%#x, %#x): %#x, want %#x", a, b, n, want)
			}
		}
	}
}

// P3.1: Total, Of and Right.
func TestTotal(t *testing.T) {
	for _, c := range []struct {
		name  string
		parts [][]byte
		want  uint16
	}{
		{"the chapter's example", [][]byte{{0, 1, 0xf2, 3, 0xf4, 0xf5, 0xf6, 0xf7}}, 0xddf2},
		{"its sum behind it", [][]byte{{0, 1, 0xf2, 3, 0xf4, 0xf5, 0xf6, 0xf7}, {0x22, 0x0d}}, 65535},
		{"a header without its sum", [][]byte{head()}, 0x479e},
		{"a header with its sum", [][]byte{wholeHead()}, 65535},
		{"no parts", nil, 0},
		{"a nil part", [][]byte{nil}, 0},
		{"an empty part", [][]byte{{}}, 0},
		{"several empty parts", [][]byte{nil, {}, nil}, 0},
		{"one byte", [][]byte{{1}}, 0x100},
		{"one byte 255", [][]byte{{255}}, 0xff00},
		{"one byte 0", [][]byte{{0}}, 0},
		{"one number, the higher byte first", [][]byte{{1, 2}}, 0x102},
		{"three bytes", [][]byte{{1, 2, 3}}, 0x402},
		{"three bytes above 65,535", [][]byte{{255, 255, 1}}, 0x100},
		{"odd parts, even in all", [][]byte{{1}, {2}}, 0x102},
		{"odd parts, odd in all", [][]byte{{1}, {2}, {3}}, 0x402},
		{"an odd part ahead of an even one", [][]byte{{1}, {2, 3}}, 0x402},
		{"an odd part ahead of a longer one", [][]byte{{1, 2, 3}, {4, 5, 6, 7, 8}}, 0x1014},
		{"an even part ahead of an odd one", [][]byte{{1, 2}, {3}}, 0x402},
		{"empty parts within a pair", [][]byte{{1}, nil, {}, {2}}, 0x102},
		{"empty parts at the ends", [][]byte{nil, {1, 2}, {}}, 0x102},
		{"an empty part behind an odd one", [][]byte{{1}, {}}, 0x100},
		{"65,535 just reached", [][]byte{{0xff, 0xfe, 0, 1}}, 65535},
		{"65,536", [][]byte{{255, 255, 0, 1}}, 1},
		{"the sum of three at once above 131,070", [][]byte{{255, 255, 255, 255, 0, 2}}, 2},
		{"all bytes 0", [][]byte{make([]byte, 20)}, 0},
		{"all bytes 0, odd", [][]byte{make([]byte, 21)}, 0},
		{"two bytes 255", [][]byte{{255, 255}}, 65535},
		{"all bytes 255", [][]byte{slices.Repeat([]byte{255}, 20)}, 65535},
		{"all bytes 255, odd", [][]byte{slices.Repeat([]byte{255}, 21)}, 0xff00},
		{"all bytes 255 and a 1", [][]byte{slices.Repeat([]byte{255}, 20), {0, 1}}, 1},
		{"many carries", [][]byte{slices.Repeat([]byte{0x80, 0}, 1<<17)}, 1},
	} {
		if n := Total(c.parts...); n != c.want {
			t.Errorf("%s: total %#x, want %#x", c.name, n, c.want)
		}
		if n := Of(c.parts...); n != 65535-c.want {
			t.Errorf("%s: sum %#x, want %#x", c.name, n, 65535-c.want)
		}
		if r := Right(c.parts...); r != (c.want == 65535) {
			t.Errorf("%s: right %v at the total %#x", c.name, r, c.want)
		}
	}
}

// P3.1: the total is that of all pairs, whatever the bytes and however many there are.
func TestTotalOfAnyBytes(t *testing.T) {
	for count := range 300 {
		b := noise(uint32(count), count)
		if n, want := Total(b), plainTotal(b); n != want {
			t.Errorf("%d bytes: total %#x, want %#x", count, n, want)
		}
		if n, want := Of(b), 65535-plainTotal(b); n != want {
			t.Errorf("%d bytes: sum %#x, want %#x", count, n, want)
		}
	}
}

// P3.1: parts are as all their bytes, wherever they are cut.
func TestParts(t *testing.T) {
	for _, b := range [][]byte{wholeHead(), head(), noise(5, 17), slices.Repeat([]byte{255}, 9), make([]byte, 6)} {
		want := Total(b)
		for i := range len(b) + 1 {
			for k := i; k <= len(b); k++ {
				parts := [][]byte{b[:i], nil, b[i:k], {}, b[k:]}
				if n := Total(parts...); n != want {
					t.Errorf("cut at %d and %d: total %#x, want %#x", i, k, n, want)
				}
				if n := Of(parts...); n != 65535-want {
					t.Errorf("cut at %d and %d: sum %#x, want %#x", i, k, n, 65535-want)
				}
				if r := Right(parts...); r != (want == 65535) {
					t.Errorf("cut at %d and %d: right %v at the total %#x", i, k, r, want)
				}
			}
		}
		var single [][]byte
		for i := range b {
			single = append(single, b[i:i+1])
		}
		if n := Total(single...); n != want {
			t.Errorf("byte by byte: total %#x, want %#x", n, want)
		}
	}
}

// P3.1: what lies behind a part's length doesn't count.
func TestPartsEndAtTheirLength(t *testing.T) {
	b := []byte{1, 2, 3, 4}
	if n := Total(b[:1]); n != 0x100 {
		t.Errorf("one part: %#x", n)
	}
	if n := Total(b[:3], b[:0], b[:1]); n != 0x403 {
		t.Errorf("several parts: %#x", n)
	}
}

// P3.1: bytes have the total 65,535, if their own sum stands among them, at any even place; and aren't right with another one.
func TestRight(t *testing.T) {
	for count := 2; count < 60; count++ {
		for at := 0; at+2 <= count; at += 2 {
			b := noise(uint32(count), count)
			b[at], b[at+1] = 0, 0
			n := Of(b)
			b[at], b[at+1] = byte(n>>8), byte(n)
			if !Right(b) {
				t.Errorf("%d bytes with their sum at %d: total %#x", count, at, Total(b))
			}
			b[at+1]++
			if Right(b) {
				t.Errorf("%d bytes with another sum at %d: right", count, at)
			}
		}
	}
}

// P3.1: Right of all numbers: just 65,535 is right, 0 isn't.
func TestRightOfOneNumber(t *testing.T) {
	for n := range 65536 {
		if r := Right([]byte{byte(n >> 8), byte(n)}); r != (n == 65535) {
			t.Errorf("%#x: %v", n, r)
		}
	}
}

// P3.2: Turn.
func TestTurn(t *testing.T) {
	for _, c := range []struct {
		name          string
		sum, was, now uint16
		want          uint16
	}{
		{"a Ttl less by one", 0xb861, 0x4011, 0x3f11, 0xb961},
		{"to the sum 0", 0xdd2f, 0x5555, 0x3285, 0},
		{"the same number", 0x1234, 7, 7, 0x1234},
		{"one more", 0x1234, 7, 8, 0x1233},
		{"one less", 0x1234, 7, 6, 0x1235},
		{"one less at the sum 65,534", 65534, 1, 0, 0},
		{"the sum 0, the same number", 0, 5, 5, 0},
		{"the sum 0, one more", 0, 5, 6, 65534},
		{"the sum 0, one less", 0, 6, 5, 1},
		{"the sum 65,535, both 0", 65535, 0, 0, 0},
		{"the sum 65,535, one more", 65535, 0, 1, 65534},
		{"the sum 65,535, the same number", 65535, 9, 9, 0},
		{"all 65,535", 65535, 65535, 65535, 0},
		{"the sum 65,535, 65,535 to 0", 65535, 65535, 0, 65535},
		{"the sum 0, 65,535 to 0", 0, 65535, 0, 0},
		{"the sum 0, 0 to 65,535", 0, 0, 65535, 0},
		{"all 0", 0, 0, 0, 0},
	} {
		if n := Turn(c.sum, c.was, c.now); n != c.want {
			t.Errorf("%s: %#x, want %#x", c.name, n, c.want)
		}
	}
}

// P3.2: Turn at the edges: 65,535 less what comes of adding the three.
func TestTurnAtTheEdges(t *testing.T) {
	for _, sum := range edges() {
		for _, was := range edges() {
			for _, now := range edges() {
				all := []uint16{65535 - sum, 65535 - was, now}
				total := 0
				for _, x := range all {
					total += int(x)
					if total > 65535 {
						total -= 65535
					}
				}
				if n := Turn(sum, was, now); int(n) != 65535-total {
					t.Errorf("Turn(%#x, %#x, %#x): %#x, want %#x", sum, was, now, n, 65535-total)
				}
			}
		}
	}
}

// P3.2: Patch.
func TestPatch(t *testing.T) {
	for _, c := range []struct {
		name     string
		sum      uint16
		was, now []byte
		want     uint16
		err      api.Errno
	}{
		{"one number", 0xb861, []byte{0x40, 0x11}, []byte{0x3f, 0x11}, 0xb961, api.OK},
		{"two numbers", 0xb861, []byte{0x40, 0x11, 0, 1}, []byte{0x3f, 0x11, 0, 2}, 0xb960, api.OK},
		{"the lower byte alone", 0x1234, []byte{0, 7}, []byte{0, 8}, 0x1233, api.OK},
		{"the higher byte alone", 0x1234, []byte{7, 0}, []byte{8, 0}, 0x1134, api.OK},
		{"to the sum 0", 0xdd2f, []byte{0x55, 0x55}, []byte{0x32, 0x85}, 0, api.OK},
		{"a port and an Ip", 0x1c46, []byte{0xc0, 0xa8, 0, 1, 0x10, 0}, []byte{10, 0, 0, 1, 0x20, 0}, 0xc2ee, api.OK},
		{"nothing", 7, nil, nil, 7, api.OK},
		{"nothing, empty", 7, []byte{}, nil, 7, api.OK},
		{"nothing at the sum 0", 0, nil, []byte{}, 0, api.OK},
		{"nothing at the sum 65,535", 65535, nil, nil, 65535, api.OK},
		{"the same bytes", 0x1234, []byte{1, 2, 3, 4}, []byte{1, 2, 3, 4}, 0x1234, api.OK},
		{"the same bytes at the sum 65,535", 65535, []byte{0, 0}, []byte{0, 0}, 0, api.OK},
		{"from 0 to 255", 0, []byte{0, 0, 0, 0}, []byte{255, 255, 255, 255}, 0, api.OK},
		{"odd", 7, []byte{1}, []byte{2}, 0, api.ErrRange},
		{"odd, longer", 7, []byte{1, 2, 3}, []byte{1, 2, 4}, 0, api.ErrRange},
		{"now shorter", 7, []byte{1, 2}, nil, 0, api.ErrRange},
		{"now shorter, not empty", 7, []byte{1, 2, 3, 4}, []byte{1, 2}, 0, api.ErrRange},
		{"now longer", 7, []byte{1, 2}, []byte{1, 2, 3, 4}, 0, api.ErrRange},
		{"was empty", 7, nil, []byte{1, 2}, 0, api.ErrRange},
		{"odd and even", 7, []byte{1}, []byte{1, 2}, 0, api.ErrRange},
		{"even and odd", 7, []byte{1, 2}, []byte{1}, 0, api.ErrRange},
		{"nothing and odd", 7, nil, []byte{1}, 0, api.ErrRange},
		{"odd and nothing", 7, []byte{1}, nil, 0, api.ErrRange},
		{"both odd and not equally long", 7, []byte{1}, []byte{1, 2, 3}, 0, api.ErrRange},
		{"both odd and not equally long, now shorter", 7, []byte{1, 2, 3}, []byte{1}, 0, api.ErrRange},
	} {
		if n, e := Patch(c.sum, c.was, c.now); n != c.want || e != c.err {
			t.Errorf("%s: %#x, %d; want %#x, %d", c.name, n, e, c.want, c.err)
		}
	}
}

// P3.2: Patch is Turn, pair by pair, from the left.
func TestPatchIsTurn(t *testing.T) {
	for count := 0; count < 40; count += 2 {
		for _, sum := range edges() {
			was, now := noise(1, count), noise(2, count)
			want := sum
			for i := 0; i < count; i += 2 {
				want = Turn(want, uint16(was[i])<<8+uint16(was[i+1]), uint16(now[i])<<8+uint16(now[i+1]))
			}
			if n, e := Patch(sum, was, now); n != want || e != api.OK {
				t.Errorf("%d bytes, sum %#x: %#x, %d; want %#x", count, sum, n, e, want)
			}
		}
	}
}

// allZero: is no byte another one than 0?
func allZero(b []byte) bool {
	return !slices.ContainsFunc(b, func(x byte) bool { return x != 0 })
}

// checkPatched: is the sum of bytes in which part lies at a place what Patch makes of the sum that was?
func checkPatched(t *testing.T, b []byte, at int, part []byte) {
	t.Helper()
	now := slices.Clone(b)
	copy(now[at:], part)
	if allZero(b) || allZero(now) {
		return
	}
	if n, e := Patch(Of(b), b[at:at+len(part)], part); n != Of(now) || e != api.OK {
		t.Errorf("% x with % x at %d: %#x, %d; want %#x", b, part, at, n, e, Of(now))
	}
}

// P3.3: of any bytes, some of which are others now.
func TestPatchOfChangedBytes(t *testing.T) {
	for count := 2; count < 30; count++ {
		b := noise(uint32(count), count)
		for at := 0; at <= count; at += 2 {
			for size := 0; at+size <= count; size += 2 {
				checkPatched(t, b, at, noise(99, size))
				checkPatched(t, b, at, make([]byte, size))
				checkPatched(t, b, at, slices.Repeat([]byte{255}, size))
				checkPatched(t, b, at, b[at:at+size])
			}
		}
	}
}

// P3.3: at the edges, where the sums 0 and 65,535 come near each other.
func TestPatchOfChangedEdges(t *testing.T) {
	row := func(a, b uint16) []byte { return []byte{byte(a >> 8), byte(a), byte(b >> 8), byte(b)} }
	for _, a := range edges() {
		for _, b := range edges() {
			for _, c := range edges() {
				checkPatched(t, row(a, b), 0, row(c, 0)[:2])
				checkPatched(t, row(a, b), 2, row(c, 0)[:2])
				checkPatched(t, row(a, b), 0, row(c, b))
				checkPatched(t, row(a, b), 0, row(b, c))
			}
		}
	}
}

// P3.3: to all bytes 255 and back.
func TestPatchToAndFromAll255(t *testing.T) {
	ones := slices.Repeat([]byte{255}, 8)
	for _, b := range [][]byte{{0, 0, 0, 0, 0, 0, 0, 1}, noise(3, 8), ones} {
		checkPatched(t, b, 0, ones)
		checkPatched(t, ones, 0, b)
	}
}

// P3.3: what is handed in, and what lies behind its length, stays as it is.
func TestNothingIsChanged(t *testing.T) {
	was, now := noise(1, 32), noise(2, 32)
	parts := [][]byte{was[:7], nil, now[:12], was[20:23]}
	oldWas, oldNow, oldParts := slices.Clone(was), slices.Clone(now), slices.Clone(parts)
	Total(parts...)
	Of(parts...)
	Right(parts...)
	Patch(5, was[:20], now[:20])
	Patch(5, was[:19], now[:19])
	Patch(5, was[:20], now[:18])
	if !bytes.Equal(was, oldWas) || !bytes.Equal(now, oldNow) {
		t.Error("bytes are changed")
	}
	for i := range parts {
		if len(parts[i]) != len(oldParts[i]) || cap(parts[i]) != cap(oldParts[i]) || len(parts[i]) > 0 && &parts[i][0] != &oldParts[i][0] {
			t.Errorf("part %d is another one", i)
		}
	}
}

// P3.3: the sum of bytes hangs on nothing that was asked before.
func TestNothingIsKept(t *testing.T) {
	b := []byte{1, 2, 3}
	if Total(b); Total(b) != 0x402 {
		t.Error("asked twice: another total")
	}
	b[0] = 9
	if n := Total(b); n != 0xc02 {
		t.Errorf("of other bytes: %#x", n)
	}
}

// The pairs may be gone through again, and be left early.
func TestPairs(t *testing.T) {
	seq := pairs([]byte{1}, []byte{2, 3}, []byte{4, 5})
	want := [][2]byte{{1, 2}, {3, 4}, {5, 0}}
	for stop := range len(want) + 1 {
		var got [][2]byte
		for p := range seq {
			if len(got) == stop {
				break
			}
			got = append(got, p)
		}
		if !slices.Equal(got, want[:stop]) {
			t.Errorf("the first %d: %v", stop, got)
		}
	}
	if got := slices.Collect(seq); !slices.Equal(got, want) {
		t.Errorf("again: %v", got)
	}
}

// P1: every call ends and none panics, at all arguments.
func TestAnyArguments(t *testing.T) {
	lists := [][]byte{nil, {}, {0}, {255}, {0, 0}, {255, 255}, noise(1, 3), noise(1, 64), noise(1, 65), make([]byte, 1<<16+1), slices.Repeat([]byte{255}, 1<<16)}
	for _, a := range lists {
		for _, b := range lists {
			for _, sum := range edges() {
				n, e := Patch(sum, a, b)
				right := len(a) == len(b) && len(a)%2 == 0
				if right != (e == api.OK) || !right && (n != 0 || e != api.ErrRange) {
					t.Errorf("Patch(%#x, %d bytes, %d bytes): %#x, %d", sum, len(a), len(b), n, e)
				}
			}
			if n, want := Total(a, b), plainTotal(slices.Concat(a, b)); n != want || Of(a, b) != 65535-want || Right(a, b) != (want == 65535) {
				t.Errorf("%d bytes and %d bytes: %#x, want %#x", len(a), len(b), n, want)
			}
		}
	}
	many := make([][]byte, 100000)
	if Total(many...) != 0 || Of(many...) != 65535 || Right(many...) {
		t.Error("many empty parts aren't nothing")
	}
}

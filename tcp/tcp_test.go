package tcp

import (
	"bytes"
	"errors"
	"math"
	"reflect"
	"slices"
	"testing"

	"vizard/api"
	"vizard/why"
)

// The Ips between which a segment goes where nothing else is told: their bytes all differ.
const (
	ipFrom = 0x71727374
	ipTo   = 0x81828384
)

// noise: bytes without a pattern, the same ones each time.
func noise(seed uint32, count int) []byte {
	b := make([]byte, count)
	for i := range b {
		seed = seed*1664525 + 1013904223
		b[i] = byte(seed >> 24)
	}
	return b
}

// raw: the bytes of a segment with a head of 24 bytes, whose numbers all differ, with a sum that was reckoned elsewhere.
func raw() []byte {
	return []byte{
		0x21, 0x32, 0x43, 0x54, 0x15, 0x16, 0x17, 0x18, 0x25, 0x26, 0x27, 0x28, 0x6e, 0xd5, 0x35, 0x36,
		0x7a, 0x56, 0x45, 0x46, 0x57, 0x58, 0x59, 0x5a, 0x91, 0x92, 0x93,
	}
}

// sample: the segment whose bytes raw tells.
func sample() Segment {
	return Segment{From: 0x2132, To: 0x4354, Flags: 0xd5, Raw: raw()}
}

// totalOf: the total of bytes between two Ips, by plain numbers instead of layer 3's; it is never 0, since TCP's number isn't.
func totalOf(b []byte, from, to uint32) int {
	total := int(from>>16) + int(from&65535) + int(to>>16) + int(to&65535) + 6 + len(b)%65536
	for i, x := range b {
		if i%2 == 0 {
			total += int(x) << 8
		} else {
			total += int(x)
		}
	}
	return (total-1)%65535 + 1
}

// laid: bytes with a number in the sum's place.
func laid(b []byte, n int) []byte {
	b = bytes.Clone(b)
	b[16], b[17] = byte(n>>8), byte(n)
	return b
}

// summed: bytes with their own sum between two Ips.
func summed(b []byte, from, to uint32) []byte {
	return laid(b, 65535-totalOf(laid(b, 0), from, to))
}

// fixed: summed between the usual Ips.
func fixed(b []byte) []byte {
	return summed(b, ipFrom, ipTo)
}

// spoilt: bytes with another sum than their own.
func spoilt(b []byte) []byte {
	b = fixed(b)
	b[16] ^= 0x40
	return b
}

// headOf: how many bytes a segment's head is told to have.
func headOf(b []byte) int {
	return int(b[12]) / 16 * 4
}

// told: bytes of a segment whose head is told to have so many times four bytes, with their sum; so many are there.
func told(units, there int) []byte {
	b := noise(77, there)
	b[12] = byte(units<<4) | b[12]&15
	return fixed(b)
}

// read: the segment of bytes between the usual Ips.
func read(b []byte) (Segment, error) {
	return Parse(b, ipFrom, ipTo)
}

// isError holds an error against the one fault that is wanted, or against nil.
func isError(t *testing.T, name string, err error, reason int, want api.Errno) {
	t.Helper()
	if want == api.OK {
		if err != nil {
			t.Errorf("%s: %v", name, err)
		}
		return
	}
	// All tells a fault from a bare error of api's, which has a Reason too.
	if !slices.Equal(why.All(err), []int{reason}) || why.Errno(err) != want || !errors.Is(err, want) {
		t.Errorf("%s: %v; want %s, %d", name, err, why.Word(reason), want)
	}
}

// isFault holds what a call answered against the one fault that is wanted, beside which the segment is its zero value.
func isFault(t *testing.T, name string, s Segment, err error, reason int, want api.Errno) {
	t.Helper()
	isError(t, name, err, reason, want)
	if !isZero(s) {
		t.Errorf("%s: %v beside %v", name, s, err)
	}
}

// isZero: is a segment its zero value?
func isZero(s Segment) bool {
	return len(s.Raw) == 0 && reflect.DeepEqual(s, Segment{Raw: s.Raw})
}

// isSegment holds what a call answered against the segment that is wanted.
func isSegment(t *testing.T, name string, s Segment, err error, want Segment) {
	t.Helper()
	alike := bytes.Equal(s.Raw, want.Raw)
	s.Raw, want.Raw = nil, nil
	if err != nil || !alike || !reflect.DeepEqual(s, want) {
		t.Errorf("%s: %v, %v; want %v (the bytes alike: %v)", name, s, err, want, alike)
	}
}

// segmentOf: the segment of bytes that have one.
func segmentOf(b []byte) Segment {
	return Segment{uint16(b[0])<<8 | uint16(b[1]), uint16(b[2])<<8 | uint16(b[3]), b[13], b}
}

// made is a segment that was made between two Ips, and the bytes that it has there.
type made struct {
	name     string
	from, to uint16
	flags    byte
	body     []byte
	a, b     uint32
	raw      []byte
}

// segment: the segment that is wanted.
func (m made) segment() Segment {
	return Segment{m.from, m.to, m.flags, m.raw}
}

// row: the bytes of a made segment, of which the parts between ports, flags and sum are noughts.
func row(from, to uint16, flags byte, sum uint16, body ...byte) []byte {
	return slices.Concat([]byte{
		byte(from >> 8), byte(from), byte(to >> 8), byte(to), 0, 0, 0, 0, 0, 0, 0, 0, 0x50, flags, 0, 0,
		byte(sum >> 8), byte(sum), 0, 0,
	}, body)
}

// known: made segments whose sums were reckoned elsewhere.
func known() []made {
	const top = math.MaxUint32
	return []made{
		{"bytes that all differ", 0x2132, 0x4354, 0x91, []byte{0xa1, 0xa2, 0xa3}, ipFrom, ipTo,
			[]byte{0x21, 0x32, 0x43, 0x54, 0, 0, 0, 0, 0, 0, 0, 0, 0x50, 0x91, 0, 0, 0x1c, 0x3a, 0, 0, 0xa1, 0xa2, 0xa3}},
		{"the chapter's example", 80, 1024, FSyn | FAck, nil, 0x0a000001, 0x0a000002,
			[]byte{0, 0x50, 4, 0, 0, 0, 0, 0, 0, 0, 0, 0, 0x50, 0x12, 0, 0, 0x97, 0x80, 0, 0}},
		{"noughts", 0, 0, 0, nil, 0, 0, row(0, 0, 0, 0xafe5)},
		{"one byte", 4000, 80, FAck, []byte{7}, 0x0a000002, 0x08080404, row(4000, 80, 16, 0x82d6, 7)},
		{"two bytes", 80, 4000, FFin | FAck, []byte{0, 9}, 0xc0a80001, 0xc0000201, row(80, 4000, 17, 0x1d2e, 0, 9)},
		{"five bytes", 1, 256, FRst, []byte{1, 2, 3, 4, 5}, 0x01000000, 0x100, row(1, 256, 4, 0xa3d5, 1, 2, 3, 4, 5)},
		{"the greatest numbers", 65535, 65535, 255, []byte{255, 255, 255, 255}, top, top, row(65535, 65535, 255, 0xaee2, 255, 255, 255, 255)},
		{"a sum that comes out as 0", 0x9bab, 53, FSyn, nil, 0x0a000001, 0x0a000002, row(0x9bab, 53, 2, 0)},
		{"the same, one byte", 0x94aa, 53, FSyn, []byte{7}, 0x0a000001, 0x0a000002, row(0x94aa, 53, 2, 0, 7)},
		{"the same, two bytes", 0x94a1, 53, FSyn, []byte{7, 8}, 0x0a000001, 0x0a000002, row(0x94a1, 53, 2, 0, 7, 8)},
		{"the same, three bytes", 0x8ba0, 53, FSyn, []byte{7, 8, 9}, 0x0a000001, 0x0a000002, row(0x8ba0, 53, 2, 0, 7, 8, 9)},
	}
}

// The flags have the chapter's numbers.
func TestFlags(t *testing.T) {
	if FFin != 1 || FSyn != 2 || FRst != 4 || FAck != 16 {
		t.Error(FFin, FSyn, FRst, FAck)
	}
}

// P9.1, P9.2: what is made has its bytes, which are parsed again, and whose sum is right.
func TestThereAndBack(t *testing.T) {
	for _, c := range known() {
		s, err := Make(c.from, c.to, c.flags, c.body, c.a, c.b)
		isSegment(t, c.name, s, err, c.segment())
		if !bytes.Equal(s.Bytes(), c.raw) {
			t.Errorf("%s: % x; want % x", c.name, s.Bytes(), c.raw)
		}
		s, err = Parse(c.raw, c.a, c.b)
		isSegment(t, c.name+", parsed", s, err, c.segment())
		if !bytes.Equal(s.Bytes(), c.raw) || !Sums(c.raw, c.a, c.b) {
			t.Errorf("%s, parsed: % x; want % x", c.name, s.Bytes(), c.raw)
		}
	}
}

// P9.1: a head of more than the least, whose numbers of no interest are kept in the bytes.
func TestLongHead(t *testing.T) {
	s, err := read(raw())
	isSegment(t, "a head of 24", s, err, sample())
	if !bytes.Equal(s.Bytes(), raw()) || !Sums(raw(), ipFrom, ipTo) {
		t.Errorf("% x", s.Bytes())
	}
}

// P9.1, P9.2: each bit of the ports and of the flags stands where it should, and each one of the Ips has its part in the sum.
func TestEachBit(t *testing.T) {
	for bit := range 40 {
		parts := uint64(1) << bit
		want := Segment{From: uint16(parts >> 24), To: uint16(parts >> 8), Flags: byte(parts)}
		for _, ips := range [][2]uint32{{0, 0}, {1 << (bit % 32), 0}, {0, 1 << (bit % 32)}, {1 << (bit % 32), ^uint32(0)}} {
			want.Raw = summed(row(want.From, want.To, want.Flags, 0), ips[0], ips[1])
			s, err := Make(want.From, want.To, want.Flags, nil, ips[0], ips[1])
			isSegment(t, "Make", s, err, want)
			s, err = Parse(want.Raw, ips[0], ips[1])
			isSegment(t, "Parse", s, err, want)
			if !Sums(want.Raw, ips[0], ips[1]) {
				t.Errorf("bit %d between %v: Sums is false", bit, ips)
			}
		}
	}
}

// P9.1, P9.2: each flag by itself, and all of their kinds together.
func TestEachFlag(t *testing.T) {
	for flags := range 256 {
		want := Segment{0x2132, 0x4354, byte(flags), fixed(row(0x2132, 0x4354, byte(flags), 0, 9))}
		s, err := Make(0x2132, 0x4354, byte(flags), []byte{9}, ipFrom, ipTo)
		isSegment(t, "Make", s, err, want)
		s, err = read(s.Bytes())
		isSegment(t, "Parse", s, err, want)
	}
}

// P9.1: of each count of bytes below twenty, whatever they are, RForm with ErrEnd.
func TestTooFew(t *testing.T) {
	for count := range 20 {
		for _, b := range [][]byte{
			raw(), spoilt(raw()), told(0, 40), told(4, 40), told(5, 40), told(15, 40), fixed(make([]byte, 40)),
			noise(3, 40), make([]byte, 40), slices.Repeat([]byte{255}, 40),
		} {
			// Once with nothing behind them, once with the rest behind their length.
			s, err := read(bytes.Clone(b[:count]))
			isFault(t, "too few", s, err, why.RForm, api.ErrEnd)
			s, err = read(b[:count])
			isFault(t, "too few of more", s, err, why.RForm, api.ErrEnd)
		}
	}
	for _, b := range [][]byte{nil, {}, make([]byte, 0, 40)} {
		s, err := read(b)
		isFault(t, "none", s, err, why.RForm, api.ErrEnd)
		s, err = Parse(b, 0, 0xfff9)
		isFault(t, "none, with the right total", s, err, why.RForm, api.ErrEnd)
	}
}

// P9.1: nineteen bytes are too few, twenty and one more aren't.
func TestAtTheLeast(t *testing.T) {
	s, err := read(told(5, 20)[:19])
	isFault(t, "nineteen", s, err, why.RForm, api.ErrEnd)
	for count := 20; count < 24; count++ {
		b := told(5, count)
		s, err = read(b)
		isSegment(t, "twenty and more", s, err, segmentOf(b))
		s, err = read(told(4, count))
		isFault(t, "a head of sixteen", s, err, why.RForm, api.ErrForm)
		s, err = read(told(6, count))
		isFault(t, "a head of 24, of which some lack", s, err, why.RForm, api.ErrEnd)
	}
	b := told(6, 24)
	s, err = read(b)
	isSegment(t, "a head of 24", s, err, segmentOf(b))
}

// P9.1: whatever a head is told to have: less than twenty bytes, up to what is there, more than that; and more bytes than a packet has room for.
func TestEveryHead(t *testing.T) {
	counts := []int{1478, 1479, 1480, 1481, 1482, 1500, 65_535, 65_536, 70_000}
	for count := 20; count < 70; count++ {
		counts = append(counts, count)
	}
	for _, there := range counts {
		for units := range 16 {
			b := told(units, there)
			s, err := read(b)
			wrong, wrongErr := read(spoilt(b))
			switch {
			case units < 5:
				isFault(t, "a head of less than twenty", s, err, why.RForm, api.ErrForm)
				isFault(t, "the same, a wrong sum", wrong, wrongErr, why.RForm, api.ErrForm)
			case units*4 > there:
				isFault(t, "a head of more than there is", s, err, why.RForm, api.ErrEnd)
				isFault(t, "the same, a wrong sum", wrong, wrongErr, why.RForm, api.ErrEnd)
			case there > 1480:
				isFault(t, "more than 1,480", s, err, why.RForm, api.ErrRange)
				isFault(t, "the same, a wrong sum", wrong, wrongErr, why.RForm, api.ErrRange)
			default:
				isSegment(t, "a head", s, err, segmentOf(b))
				isFault(t, "the same, a wrong sum", wrong, wrongErr, why.RSum, api.ErrSum)
			}
		}
	}
}

// P9.1: the four lower bits beside the head's count are of no interest.
func TestBesideTheHead(t *testing.T) {
	for low := range 16 {
		b := told(5, 24)
		b[12] = byte(0x50 | low)
		b = fixed(b)
		s, err := read(b)
		isSegment(t, "a head of twenty", s, err, segmentOf(b))
		b[12] = byte(0x40 | low)
		s, err = read(fixed(b))
		isFault(t, "a head of sixteen", s, err, why.RForm, api.ErrForm)
		b[12] = byte(0x70 | low)
		s, err = read(fixed(b))
		isFault(t, "a head of 28", s, err, why.RForm, api.ErrEnd)
	}
}

// P9.1: a segment behind which other bytes lie in its memory, though not within its length.
func TestBytesBehindTheLength(t *testing.T) {
	b := append(raw(), noise(6, 2000)...)
	s, err := read(b[:27])
	isSegment(t, "what is there", s, err, sample())
	if !Sums(b[:27], ipFrom, ipTo) || Sums(b[:28], ipFrom, ipTo) {
		t.Error("what lies behind the length is summed")
	}
	b[12] = 0x70
	s, err = read(fixed(b)[:27])
	isFault(t, "a head of one byte of what lies behind", s, err, why.RForm, api.ErrEnd)
}

// P9.1: each bit by itself makes the sum wrong, be it of the bytes or of an Ip.
func TestEachBitOfTheSum(t *testing.T) {
	for _, count := range []int{20, 21, 22, 23, 60} {
		right := told(5, count)
		for at := range right {
			for bit := range 8 {
				b := bytes.Clone(right)
				b[at] ^= 1 << bit
				if Sums(b, ipFrom, ipTo) {
					t.Errorf("another bit %d of byte %d: Sums is true", bit, at)
				}
				s, err := read(b)
				reason, want := firstWrong(b, ipFrom, ipTo)
				if at != 12 && want != api.ErrSum {
					t.Fatalf("byte %d: %v", at, want)
				}
				isFault(t, "another bit", s, err, reason, want)
			}
		}
		for bit := range 32 {
			for _, ips := range [][2]uint32{{ipFrom ^ 1<<bit, ipTo}, {ipFrom, ipTo ^ 1<<bit}} {
				s, err := Parse(right, ips[0], ips[1])
				isFault(t, "another Ip", s, err, why.RSum, api.ErrSum)
				if Sums(right, ips[0], ips[1]) {
					t.Errorf("between %x: Sums is true", ips)
				}
			}
		}
	}
}

// P9.1, P9.2: a sum that is right between some Ips isn't between others, and Make reckons with those that it is given.
func TestOtherIps(t *testing.T) {
	for _, c := range known() {
		for _, ips := range [][2]uint32{
			{c.a ^ 1, c.b}, {c.a, c.b ^ 1}, {c.a ^ 0x00ff0000, c.b}, {c.a, c.b ^ 0xff000000}, {c.a ^ 1, c.b ^ 256},
		} {
			s, err := Parse(c.raw, ips[0], ips[1])
			isFault(t, c.name+" between other Ips", s, err, why.RSum, api.ErrSum)
			if Sums(c.raw, ips[0], ips[1]) {
				t.Errorf("%s between %x: Sums is true", c.name, ips)
			}
			want := c.segment()
			want.Raw = summed(c.raw, ips[0], ips[1])
			s, err = Make(c.from, c.to, c.flags, c.body, ips[0], ips[1])
			isSegment(t, c.name, s, err, want)
		}
	}
}

// P9.1: the sum takes in TCP's number, and how many bytes there are.
func TestWhatIsSummedAhead(t *testing.T) {
	right := told(5, 40)
	for _, less := range []int{6, 40, 6 + 40, 6 - 0x11, 6 - 1} {
		// Such a sum lacks something, or has UDP's or ICMP's number instead.
		n := (int(right[16])<<8 + int(right[17]) + less + 65535) % 65535
		b := laid(right, n)
		s, err := read(b)
		isFault(t, "a sum that lacks something", s, err, why.RSum, api.ErrSum)
		if Sums(b, ipFrom, ipTo) {
			t.Error("a sum that lacks something: Sums is true")
		}
	}
}

// P9.1: every number in the sum's place: right are those with which the total is 65,535.
func TestEverySum(t *testing.T) {
	for _, c := range known() {
		own := int(c.raw[16])<<8 | int(c.raw[17])
		for n := range 65536 {
			b := laid(c.raw, n)
			s, err := Parse(b, c.a, c.b)
			// With 0 the total is 65,535 already, and another 65,535 leaves it so.
			right := n == own || own == 0 && n == 65535
			if Sums(b, c.a, c.b) != right {
				t.Errorf("%s with the sum %d: Sums is %v", c.name, n, !right)
			}
			if right {
				want := c.segment()
				want.Raw = b
				isSegment(t, c.name, s, err, want)
				continue
			}
			isFault(t, c.name+" with another sum", s, err, why.RSum, api.ErrSum)
		}
	}
}

// P9.1: of several wrong things the one that the chapter names first is told.
func TestOrder(t *testing.T) {
	for _, c := range []struct {
		name   string
		b      []byte
		reason int
		want   api.Errno
	}{
		{"too few, a head of sixteen", told(4, 40)[:19], why.RForm, api.ErrEnd},
		{"too few, a head of sixty", told(15, 40)[:19], why.RForm, api.ErrEnd},
		{"too few, no head", told(0, 40)[:19], why.RForm, api.ErrEnd},
		{"too few, a wrong sum", spoilt(told(5, 20))[:19], why.RForm, api.ErrEnd},
		{"a head of sixteen", told(4, 40), why.RForm, api.ErrForm},
		{"a head of sixteen, twenty bytes", told(4, 20), why.RForm, api.ErrForm},
		{"no head", told(0, 40), why.RForm, api.ErrForm},
		{"a head of sixteen, a wrong sum", spoilt(told(4, 40)), why.RForm, api.ErrForm},
		{"a head of sixteen, too many bytes", told(4, 1481), why.RForm, api.ErrForm},
		{"a head of sixteen, all wrong", spoilt(told(4, 1481)), why.RForm, api.ErrForm},
		{"a head of four more", told(7, 24), why.RForm, api.ErrEnd},
		{"a head of sixty, of which one lacks", told(15, 59), why.RForm, api.ErrEnd},
		{"a head of four more, a wrong sum", spoilt(told(7, 24)), why.RForm, api.ErrEnd},
		{"1,481 bytes", told(5, 1481), why.RForm, api.ErrRange},
		{"1,481 bytes, a head of sixty", told(15, 1481), why.RForm, api.ErrRange},
		{"1,481 bytes, a wrong sum", spoilt(told(5, 1481)), why.RForm, api.ErrRange},
		{"70,000 bytes, a wrong sum", spoilt(told(15, 70_000)), why.RForm, api.ErrRange},
		{"a wrong sum", spoilt(told(5, 20)), why.RSum, api.ErrSum},
		{"a wrong sum, a head of sixty", spoilt(told(15, 60)), why.RSum, api.ErrSum},
		{"a wrong sum, 1,480 bytes", spoilt(told(5, 1480)), why.RSum, api.ErrSum},
		{"no sum", laid(told(5, 40), 0), why.RSum, api.ErrSum},
		{"no sum, which UDP would take", laid(raw(), 0), why.RSum, api.ErrSum},
	} {
		s, err := read(c.b)
		isFault(t, c.name, s, err, c.reason, c.want)
	}
}

// P9.1: Sums is of the total alone, whatever the bytes are else: none, few, an odd count, more than a segment may have.
func TestSums(t *testing.T) {
	for _, c := range []struct {
		name     string
		b        []byte
		from, to uint32
		want     bool
	}{
		{"none", nil, 0, 0xfff9, true},
		{"none", []byte{}, 0xfff90000, 0, true},
		{"none, one less", nil, 0, 0xfff8, false},
		{"none, noughts", nil, 0, 0, false},
		{"one byte", []byte{0x12}, 0, 0xedf8, true},
		{"one byte as the lower one", []byte{0x12}, 0, 0xffe6, false},
		{"two bytes", []byte{0x12, 0x34}, 0xedc3, 0, true},
		{"two bytes, turned", []byte{0x34, 0x12}, 0xedc3, 0, false},
		{"three bytes", []byte{0x12, 0x34, 0x56}, 0x97c20000, 0, true},
		{"no head", fixed(make([]byte, 40)), ipFrom, ipTo, true},
		{"eighteen", fixed(noise(4, 18)), ipFrom, ipTo, true},
		{"nineteen", fixed(noise(4, 19)), ipFrom, ipTo, true},
		{"1,481", fixed(noise(4, 1481)), ipFrom, ipTo, true},
		{"65,535", fixed(noise(4, 65_535)), ipFrom, ipTo, true},
		{"a head of more than there is", told(15, 20), ipFrom, ipTo, true},
		{"the same, a wrong sum", spoilt(told(15, 20)), ipFrom, ipTo, false},
	} {
		if Sums(c.b, c.from, c.to) != c.want {
			t.Errorf("%s: %v", c.name, !c.want)
		}
	}
}

// P9.1: Sums of bytes of each count, with each of two sums.
func TestSumsOfEachCount(t *testing.T) {
	for count := range 1700 {
		b := noise(uint32(count), count)
		if want := totalOf(b, ipFrom, ipTo) == 65535; Sums(b, ipFrom, ipTo) != want {
			t.Errorf("%d bytes: %v", count, !want)
		}
		// An Ip that brings the total to 65,535.
		rest := uint32(65535 - totalOf(b, ipFrom, 0))
		if !Sums(b, ipFrom, rest) || Sums(b, ipFrom, rest^1) || Sums(b, ipFrom, rest^0x80000000) {
			t.Errorf("%d bytes: a total that is brought to 65,535", count)
		}
	}
}

// P9.2: Make, with bodies of each length up to beyond the most.
func TestBodies(t *testing.T) {
	counts := []int{1480, 1481, 1500, 65_515, 65_516, 65_535, 65_536, 65_536 + 100, 1 << 20}
	for count := range 1466 {
		counts = append(counts, count)
	}
	for _, count := range counts {
		body := noise(uint32(count), count)
		s, err := Make(0x2132, 0x4354, FAck, body, ipFrom, ipTo)
		if count > 1460 {
			isFault(t, "too long a body", s, err, why.RForm, api.ErrRange)
			continue
		}
		want := Segment{0x2132, 0x4354, FAck, fixed(row(0x2132, 0x4354, FAck, 0, body...))}
		isSegment(t, "Make", s, err, want)
		s, err = read(s.Raw)
		isSegment(t, "back", s, err, want)
	}
}

// P9.2: Has, of each flags and each ones that are asked for, also those without a name.
func TestHas(t *testing.T) {
	for own := range 256 {
		s := Segment{Flags: byte(own)}
		for flags := range 256 {
			want := true
			for bit := range 8 {
				if flags>>bit&1 == 1 && own>>bit&1 == 0 {
					want = false
				}
			}
			if s.Has(byte(flags)) != want {
				t.Errorf("%x has %x: %v", own, flags, !want)
			}
		}
	}
	s := Segment{Flags: FSyn | FAck}
	if !s.Has(0) || !s.Has(FSyn) || !s.Has(FAck) || !s.Has(FSyn|FAck) {
		t.Error("there is one that lacks")
	}
	if s.Has(FFin) || s.Has(FRst) || s.Has(FSyn|FFin) || s.Has(FSyn|FAck|FRst) || s.Has(8) || s.Has(FSyn|32) || s.Has(255) {
		t.Error("one that lacks is there")
	}
}

// P9.2: Bytes and Has go by their own field, whatever the others tell.
func TestFieldsApart(t *testing.T) {
	for _, b := range [][]byte{nil, {}, {1}, raw(), noise(2, 5000)} {
		s := Segment{1, 2, FSyn, b}
		if got := s.Bytes(); !bytes.Equal(got, b) {
			t.Errorf("% x; want % x", got, b)
		}
		if !s.Has(FSyn) || s.Has(FAck) {
			t.Error("the flags are those of the bytes")
		}
	}
	if b := (Segment{}).Bytes(); len(b) != 0 {
		t.Errorf("% x", b)
	}
	long := noise(3, 40)
	if b := (Segment{Raw: long[:30]}).Bytes(); !bytes.Equal(b, long[:30]) {
		t.Errorf("% x", b)
	}
}

// scribble writes over all of a list's memory, its spare room too: whatever else is seen to change shares it.
func scribble(x []byte) {
	for i := range x[:cap(x)] {
		x[:cap(x)][i] ^= 0xff
	}
}

// P9.2: Parse and Sums neither change nor keep their bytes, nor what lies behind their length, and a segment shares nothing with them.
func TestReadingIsNew(t *testing.T) {
	for _, b := range [][]byte{
		raw(), spoilt(raw()), told(4, 30), told(5, 20), told(5, 21), told(6, 24), told(7, 24), told(15, 60),
		told(5, 1480), told(15, 1480), told(5, 1481), noise(4, 60),
	} {
		for _, count := range []int{0, 19, 20, 21, 24, 27, 60, 1480, len(b)} {
			own := append(bytes.Clone(b), noise(8, 32)...)
			before := bytes.Clone(own)
			count = min(count, len(own))
			Sums(own[:count], ipFrom, ipTo)
			first, _ := read(own[:count])
			second, _ := read(own[:count])
			if !bytes.Equal(own, before) {
				t.Fatalf("%d bytes are changed", count)
			}
			want := second
			want.Raw = bytes.Clone(second.Raw)
			scribble(first.Raw)
			if !bytes.Equal(own, before) {
				t.Errorf("%d bytes: the answer shares their memory", count)
			}
			isSegment(t, "two answers share memory", second, nil, want)
			scribble(own)
			isSegment(t, "a later change is seen", second, nil, want)
		}
	}
}

// P9.2: Make neither changes nor keeps the body, and shares nothing with it, nor one answer with another.
func TestMakingIsNew(t *testing.T) {
	for _, count := range []int{0, 1, 2, 3, 20, 1459, 1460, 1461} {
		own, before := noise(9, 2000), noise(9, 2000)
		first, _ := Make(0x2132, 0x4354, FSyn, own[:count], ipFrom, ipTo)
		second, _ := Make(0x2132, 0x4354, FSyn, own[:count], ipFrom, ipTo)
		want := second
		want.Raw = bytes.Clone(second.Raw)
		scribble(first.Raw)
		if !bytes.Equal(own, before) {
			t.Errorf("a body of %d: it is changed, or shared", count)
		}
		isSegment(t, "two answers share memory", second, nil, want)
		scribble(own)
		isSegment(t, "a later change is seen", second, nil, want)
	}
}

// P9.2: Bytes and Has change nothing of the segment, and Bytes shares nothing with it, nor one answer with another.
func TestBytesAreNew(t *testing.T) {
	for _, count := range []int{0, 1, 20, 27, 1480, 1999} {
		own, before := noise(9, 2000), noise(9, 2000)
		s := Segment{0x2132, 0x4354, FSyn, own[:count]}
		s.Has(255)
		first, second := s.Bytes(), s.Bytes()
		want := bytes.Clone(before[:count])
		scribble(first)
		if !bytes.Equal(own, before) {
			t.Errorf("%d bytes: they are changed, or shared", count)
		}
		isSegment(t, "the segment", s, nil, Segment{0x2132, 0x4354, FSyn, want})
		scribble(own)
		if !bytes.Equal(second, want) {
			t.Errorf("%d bytes: two answers share memory, or a later change is seen", count)
		}
	}
}

// P9.2: the bytes of what was parsed, and of what was made, are apart from the segment.
func TestBytesOfAnswersAreNew(t *testing.T) {
	parsed, _ := read(raw())
	built, _ := Make(1, 2, FSyn, []byte{3}, ipFrom, ipTo)
	for _, s := range []Segment{parsed, built} {
		want := bytes.Clone(s.Raw)
		scribble(s.Bytes())
		if !bytes.Equal(s.Raw, want) || !bytes.Equal(s.Bytes(), want) {
			t.Error("the bytes that are answered are the segment's own")
		}
	}
}

// firstWrong: the first of the chapter's errors that bytes have between two Ips, or none.
func firstWrong(b []byte, from, to uint32) (int, api.Errno) {
	switch {
	case len(b) < 20:
		return why.RForm, api.ErrEnd
	case headOf(b) < 20:
		return why.RForm, api.ErrForm
	case headOf(b) > len(b):
		return why.RForm, api.ErrEnd
	case len(b) > 1480:
		return why.RForm, api.ErrRange
	case totalOf(b, from, to) != 65535:
		return why.RSum, api.ErrSum
	}
	return 0, api.OK
}

// isAsTold holds what Parse and Sums answer of any bytes against what the chapter tells.
func isAsTold(t *testing.T, b []byte, from, to uint32) {
	t.Helper()
	s, err := Parse(b, from, to)
	if reason, want := firstWrong(b, from, to); want != api.OK {
		isFault(t, "Parse", s, err, reason, want)
	} else {
		isSegment(t, "Parse", s, err, segmentOf(b))
	}
	if right := totalOf(b, from, to) == 65535; Sums(b, from, to) != right {
		t.Errorf("Sums of %d bytes: %v", len(b), !right)
	}
}

// P9.1, P1: any bytes between any Ips, most of them nearly right: no call panics, and the first error is told.
func TestAnyBytes(t *testing.T) {
	for seed := range uint32(60_000) {
		dice := noise(seed*2654435761+1, 8)
		ips := noise(seed+7, 8)
		from := uint32(ips[0])<<24 | uint32(ips[1])<<16 | uint32(ips[2])<<8 | uint32(ips[3])
		to := uint32(ips[4])<<24 | uint32(ips[5])<<16 | uint32(ips[6])<<8 | uint32(ips[7])
		size := int(dice[0]) % 90
		if dice[1]%16 == 0 {
			size += 1430
		}
		b := noise(seed, size)
		if size >= 20 && dice[2]%8 != 0 {
			units := min(size/4+int(dice[3]%4)-2, 15)
			b[12] = byte(units<<4) | dice[4]&15
			if dice[5]%8 != 0 {
				b = summed(b, from, to)
			}
		}
		isAsTold(t, b, from, to)
	}
}

// P1: no call panics at long bytes, whatever they are; their count is summed in its two lower bytes.
func TestLongBytes(t *testing.T) {
	for _, count := range []int{1480, 1500, 65_535, 65_536, 65_537, 1 << 22} {
		for _, units := range []int{0, 4, 5, 15} {
			for _, b := range [][]byte{make([]byte, count), noise(1, count), slices.Repeat([]byte{255}, count)} {
				b[12] = byte(units << 4)
				isAsTold(t, b, 0, 0)
				isAsTold(t, b, math.MaxUint32, math.MaxUint32)
				isAsTold(t, fixed(b), ipFrom, ipTo)
			}
		}
	}
}

// P1: no call panics, at any segment and any arguments, and an error comes with nothing else.
func TestAnySegments(t *testing.T) {
	for _, body := range [][]byte{nil, {}, {0}, noise(1, 1460), noise(1, 1461), noise(1, 65_516), noise(1, 1<<20)} {
		for _, n := range []uint16{0, 1, 65535} {
			for _, ips := range [][2]uint32{{0, 0}, {math.MaxUint32, math.MaxUint32}, {ipFrom, ipTo}} {
				s, err := Make(n, ^n, byte(n), body, ips[0], ips[1])
				if (err != nil) != isZero(s) {
					t.Errorf("%v beside %v", s, err)
				}
				if err == nil {
					back, err := Parse(s.Raw, ips[0], ips[1])
					isSegment(t, "back", back, err, s)
				}
			}
			s := Segment{n, n, byte(n), body}
			if !bytes.Equal(s.Bytes(), body) || !s.Has(byte(n)) {
				t.Errorf("a segment of %d bytes", len(body))
			}
		}
	}
}

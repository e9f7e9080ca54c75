package udp

import (
	"bytes"
	"errors"
	"math"
	"reflect"
	"slices"
	"testing"

	"vizard/api"
	"vizard/why"
)

// The Ips between which a datagram goes where nothing else is told: their bytes all differ.
const (
	ipFrom = 0x71727374
	ipTo   = 0x81828384
)

// noise: bytes without a pattern, the same ones each time.
func noise(seed uint32, count int) []byte {
	b := make([]byte, count)
	for i := range b {
		seed = seed*1664525 + 1013904223
		b[i] = byte(seed >> 24)
	}
	return b
}

// sample: a datagram whose fields have bytes that all differ.
func sample() Datagram {
	return Datagram{From: 0x2132, To: 0x4354, Body: []byte{0x91, 0x92, 0x93}}
}

// raw: the bytes of sample, with a sum that was reckoned elsewhere.
func raw() []byte {
	return []byte{0x21, 0x32, 0x43, 0x54, 0, 11, 0x8c, 0xd1, 0x91, 0x92, 0x93}
}

// reckoned: the sum of bytes between two Ips, whatever stands in its place, by plain numbers instead of layer 3's.
func reckoned(b []byte, from, to uint32) uint16 {
	total := int(from>>16) + int(from&65535) + int(to>>16) + int(to&65535) + 0x11 + len(b)
	for i, x := range b {
		switch {
		case i == 6 || i == 7:
		case i%2 == 0:
			total += int(x) << 8
		default:
			total += int(x)
		}
	}
	// The total is never 0, so that a rest of 0 is one of 65,535, whose sum of 0 is told by 65,535.
	return uint16(65535 - total%65535)
}

// summed: bytes with the own sum of those that the datagram is told to have, as far as they are there.
func summed(b []byte, from, to uint32) []byte {
	b = bytes.Clone(b)
	end := min(max(toldOf(b), 8), len(b))
	n := reckoned(b[:end], from, to)
	b[6], b[7] = byte(n>>8), byte(n)
	return b
}

// fixed: summed between the usual Ips.
func fixed(b []byte) []byte {
	return summed(b, ipFrom, ipTo)
}

// spoilt: bytes with another sum than their own, which isn't 0 either.
func spoilt(b []byte) []byte {
	b = fixed(b)
	if b[7] ^= 1; b[6] == 0 && b[7] == 0 {
		b[7] = 2
	}
	return b
}

// bared: bytes with 0 in the sum's place.
func bared(b []byte) []byte {
	b = bytes.Clone(b)
	b[6], b[7] = 0, 0
	return b
}

// toldOf: how many bytes a datagram is told to have.
func toldOf(b []byte) int {
	return int(b[4])*256 + int(b[5])
}

// told: bytes of a datagram that is told to have so many, with their sum; so many are there.
func told(all, there int) []byte {
	b := noise(77, max(there, 8))
	b[4], b[5] = byte(all>>8), byte(all)
	return fixed(b)[:there]
}

// read: the datagram of bytes between the usual Ips.
func read(b []byte) (Datagram, error) {
	return Parse(b, ipFrom, ipTo)
}

// isError holds an error against the one fault that is wanted, or against nil.
func isError(t *testing.T, name string, err error, reason int, want api.Errno) {
	t.Helper()
	if want == api.OK {
		if err != nil {
			t.Errorf("%s: %v", name, err)
		}
		return
	}
	// All tells a fault from a bare error of api's, which has a Reason too.
	if !slices.Equal(why.All(err), []int{reason}) || why.Errno(err) != want || !errors.Is(err, want) {
		t.Errorf("%s: %v; want %s, %d", name, err, why.Word(reason), want)
	}
}

// isFault holds what Parse answered against the one fault that is wanted, beside which the datagram is its zero value.
func isFault(t *testing.T, name string, d Datagram, err error, reason int, want api.Errno) {
	t.Helper()
	isError(t, name, err, reason, want)
	if !isZero(d) {
		t.Errorf("%s: %v beside %v", name, d, err)
	}
}

// isZero: is a datagram its zero value?
func isZero(d Datagram) bool {
	return len(d.Body) == 0 && reflect.DeepEqual(d, Datagram{Body: d.Body})
}

// isDatagram holds what Parse answered against the datagram that is wanted, without Same.
func isDatagram(t *testing.T, name string, d Datagram, err error, want Datagram) {
	t.Helper()
	alike := bytes.Equal(d.Body, want.Body)
	d.Body, want.Body = nil, nil
	if err != nil || !alike || !reflect.DeepEqual(d, want) {
		t.Errorf("%s: %v, %v; want %v (the body alike: %v)", name, d, err, want, alike)
	}
}

// sent is a datagram between two Ips, and the bytes that it has there.
type sent struct {
	name     string
	d        Datagram
	from, to uint32
	b        []byte
}

// known: datagrams whose sums were reckoned elsewhere.
func known() []sent {
	const top = math.MaxUint32
	return []sent{
		{"bytes that all differ", sample(), ipFrom, ipTo, raw()},
		{"the chapter's bare one", Datagram{From: 68, To: 67, Bare: true}, 0, top, []byte{0, 0x44, 0, 0x43, 0, 8, 0, 0}},
		{"the same with a sum", Datagram{From: 68, To: 67}, 0, top, []byte{0, 68, 0, 67, 0, 8, 0xff, 0x57}},
		{"a bare one with a body", Datagram{From: 0x2132, To: 0x4354, Bare: true, Body: []byte{9, 8, 7}}, ipFrom, ipTo,
			[]byte{0x21, 0x32, 0x43, 0x54, 0, 11, 0, 0, 9, 8, 7}},
		{"noughts", Datagram{}, 0, 0, []byte{0, 0, 0, 0, 0, 8, 0xff, 0xde}},
		{"one byte", Datagram{From: 4000, To: 53, Body: []byte{7}}, 0x0a000002, 0x08080404, []byte{0x0f, 0xa0, 0, 53, 0, 9, 0xd2, 0xf9, 7}},
		{"two bytes", Datagram{From: 53, To: 4000, Body: []byte{0, 9}}, 0xc0a80001, 0xc0000201, []byte{0, 53, 0x0f, 0xa0, 0, 10, 0x6d, 0x51, 0, 9}},
		{"five bytes", Datagram{From: 1, To: 256, Body: []byte{1, 2, 3, 4, 5}}, 0x01000000, 0x00000100,
			[]byte{0, 1, 1, 0, 0, 13, 0xf3, 0xcd, 1, 2, 3, 4, 5}},
		{"the greatest numbers", Datagram{From: 65535, To: 65535, Body: []byte{255, 255, 255, 255}}, top, top,
			[]byte{255, 255, 255, 255, 0, 12, 0xff, 0xd6, 255, 255, 255, 255}},
		{"a sum that comes out as 0", Datagram{From: 0xeba6, To: 53}, 0x0a000001, 0x0a000002, []byte{0xeb, 0xa6, 0, 53, 0, 8, 255, 255}},
		{"the same, one byte", Datagram{From: 0xe4a4, To: 53, Body: []byte{7}}, 0x0a000001, 0x0a000002, []byte{0xe4, 0xa4, 0, 53, 0, 9, 255, 255, 7}},
		{"the same, two bytes", Datagram{From: 0xe49a, To: 53, Body: []byte{7, 8}}, 0x0a000001, 0x0a000002,
			[]byte{0xe4, 0x9a, 0, 53, 0, 10, 255, 255, 7, 8}},
		{"the same, three bytes", Datagram{From: 0xdb98, To: 53, Body: []byte{7, 8, 9}}, 0x0a000001, 0x0a000002,
			[]byte{0xdb, 0x98, 0, 53, 0, 11, 255, 255, 7, 8, 9}},
		{"bare, where the sum would come out as 0", Datagram{From: 0xeba6, To: 53, Bare: true}, 0x0a000001, 0x0a000002,
			[]byte{0xeb, 0xa6, 0, 53, 0, 8, 0, 0}},
	}
}

// P8.1, P8.2: bytes have their datagram, and the datagram its bytes.
func TestThereAndBack(t *testing.T) {
	for _, c := range known() {
		d, err := Parse(c.b, c.from, c.to)
		isDatagram(t, c.name, d, err, c.d)
		b, err := c.d.Bytes(c.from, c.to)
		if err != nil || !bytes.Equal(b, c.b) {
			t.Errorf("%s: % x, %v; want % x", c.name, b, err, c.b)
		}
	}
}

// P8.1, P8.2: each bit of the ports stands where it should, and each one of the Ips has its part in the sum.
func TestEachBit(t *testing.T) {
	for bit := range 32 {
		ports, ip := uint32(1)<<bit, uint32(1)<<bit
		d := Datagram{From: uint16(ports >> 16), To: uint16(ports)}
		for _, ips := range [][2]uint32{{0, 0}, {ip, 0}, {0, ip}, {ip, ^ip}, {ip, ip}} {
			b := []byte{byte(ports >> 24), byte(ports >> 16), byte(ports >> 8), byte(ports), 0, 8, 0, 0}
			for _, bare := range []bool{true, false} {
				d.Bare = bare
				if !bare {
					b = summed(b, ips[0], ips[1])
				}
				got, err := Parse(b, ips[0], ips[1])
				isDatagram(t, "Parse", got, err, d)
				if back, err := d.Bytes(ips[0], ips[1]); err != nil || !bytes.Equal(back, b) {
					t.Errorf("%v: % x, %v; want % x", d, back, err, b)
				}
			}
		}
	}
}

// P8.1: of each count of bytes below eight, whatever they are, RForm with ErrEnd.
func TestTooFew(t *testing.T) {
	for count := range 8 {
		for _, b := range [][]byte{
			raw(), bared(raw()), spoilt(raw()), told(0, 11), told(7, 11), told(8, 11), told(65535, 11),
			noise(3, 20), make([]byte, 20), slices.Repeat([]byte{255}, 20),
		} {
			// Once with nothing behind them, once with the rest behind their length.
			d, err := read(bytes.Clone(b[:count]))
			isFault(t, "too few", d, err, why.RForm, api.ErrEnd)
			d, err = read(b[:count])
			isFault(t, "too few of more", d, err, why.RForm, api.ErrEnd)
		}
	}
	for _, b := range [][]byte{nil, {}, make([]byte, 0, 40)} {
		d, err := read(b)
		isFault(t, "none", d, err, why.RForm, api.ErrEnd)
	}
}

// P8.1: seven bytes are too few, eight and nine aren't.
func TestAtTheLeast(t *testing.T) {
	want := sample()
	want.Body = nil
	b := raw()
	b[5] = 8
	b = fixed(b)
	d, err := read(b[:7])
	isFault(t, "seven", d, err, why.RForm, api.ErrEnd)
	d, err = read(b[:8])
	isDatagram(t, "eight", d, err, want)
	d, err = read(b[:9])
	isDatagram(t, "nine, told eight", d, err, want)
	b[5] = 9
	want.Body = []byte{0x91}
	d, err = read(fixed(b)[:9])
	isDatagram(t, "nine", d, err, want)
	d, err = read(fixed(b)[:8])
	isFault(t, "eight, told nine", d, err, why.RForm, api.ErrEnd)
	b[5] = 7
	for count := 8; count < 11; count++ {
		d, err = read(fixed(b)[:count])
		isFault(t, "told seven", d, err, why.RForm, api.ErrForm)
	}
}

// P8.1: whatever a datagram is told to have, with a sum and bare: less than eight, up to what is there, more than that, and more than a packet has room for.
func TestEveryTold(t *testing.T) {
	for _, there := range []int{8, 9, 10, 11, 40, 263, 264, 1479, 1480, 1481, 1482, 1500, 65_535, 70_000} {
		for all := range 65536 {
			if all > 300 && (all < 1470 || all > 1510) && all%251 != 0 && all < 65530 {
				continue
			}
			for _, b := range [][]byte{told(all, there), bared(told(all, there))} {
				d, err := read(b)
				switch {
				case all < 8:
					isFault(t, "told less than eight", d, err, why.RForm, api.ErrForm)
				case all > there:
					isFault(t, "told more than there is", d, err, why.RForm, api.ErrEnd)
				case all > 1480:
					isFault(t, "told more than 1,480", d, err, why.RForm, api.ErrRange)
				default:
					want := Datagram{uint16(b[0])<<8 | uint16(b[1]), uint16(b[2])<<8 | uint16(b[3]), b[6] == 0 && b[7] == 0, b[8:all]}
					isDatagram(t, "told", d, err, want)
				}
			}
		}
	}
}

// P8.1: a body ends where it is told to end, however much stands behind it, and whatever that is; its sum is that of what is told.
func TestBytesBehindTheEnd(t *testing.T) {
	bare := sample()
	bare.Bare = true
	for _, count := range []int{0, 1, 2, 17, 1469, 1470, 1480, 65_525, 100_000} {
		for _, tail := range [][]byte{make([]byte, count), noise(5, count), slices.Repeat([]byte{255}, count)} {
			d, err := read(slices.Concat(raw(), tail))
			isDatagram(t, "a tail", d, err, sample())
			d, err = read(slices.Concat(bared(raw()), tail))
			isDatagram(t, "a tail behind a bare one", d, err, bare)
		}
	}
	d, err := read(slices.Concat(raw(), raw()))
	isDatagram(t, "two datagrams", d, err, sample())
	// A sum that is right only with what stands behind the end.
	b := append(raw(), 0x55, 0x66)
	b[5] = 13
	b = fixed(b)
	b[5] = 11
	d, err = read(b)
	isFault(t, "a sum of more", d, err, why.RSum, api.ErrSum)
}

// P8.1: a datagram behind whose end other bytes lie in its memory, though not within its length.
func TestBytesBehindTheLength(t *testing.T) {
	b := append(raw(), 0x55, 0x66)
	d, err := read(b[:11])
	isDatagram(t, "what is there", d, err, sample())
	b[5] = 12
	b = fixed(b)
	d, err = read(b[:11])
	isFault(t, "told one byte of what lies behind", d, err, why.RForm, api.ErrEnd)
}

// P8.1: each bit by itself makes the sum wrong, be it of the bytes or of an Ip; of a bare one none does.
func TestEachBitOfTheSum(t *testing.T) {
	for _, count := range []int{8, 9, 10, 11, 40} {
		right := told(count, count)
		for at := range right {
			if at == 4 || at == 5 {
				// There other errors come first, or the datagram gets another end.
				continue
			}
			for bit := range 8 {
				b := bytes.Clone(right)
				b[at] ^= 1 << bit
				d, err := read(b)
				isFault(t, "another bit", d, err, why.RSum, api.ErrSum)
				b = bared(b)
				d, err = read(b)
				isDatagram(t, "another bit of a bare one", d, err, Datagram{uint16(b[0])<<8 | uint16(b[1]), uint16(b[2])<<8 | uint16(b[3]), true, b[8:]})
			}
		}
		for bit := range 32 {
			for _, ips := range [][2]uint32{{ipFrom ^ 1<<bit, ipTo}, {ipFrom, ipTo ^ 1<<bit}} {
				d, err := Parse(right, ips[0], ips[1])
				isFault(t, "another Ip", d, err, why.RSum, api.ErrSum)
				if d, err = Parse(bared(right), ips[0], ips[1]); err != nil || !d.Bare {
					t.Errorf("a bare one between other Ips: %v, %v", d, err)
				}
			}
		}
	}
}

// P8.1: a sum that is right between other Ips isn't between these.
func TestOtherIps(t *testing.T) {
	for _, c := range known() {
		for i, ips := range [][2]uint32{
			{c.from ^ 1, c.to}, {c.from, c.to ^ 1}, {c.from ^ 0x00ff0000, c.to}, {c.from, c.to ^ 0xff000000}, {c.from ^ 1, c.to ^ 256},
		} {
			d, err := Parse(c.b, ips[0], ips[1])
			if c.d.Bare {
				isDatagram(t, c.name, d, err, c.d)
				continue
			}
			isFault(t, c.name+" between other Ips", d, err, why.RSum, api.ErrSum)
			b, err := c.d.Bytes(ips[0], ips[1])
			if err != nil || !bytes.Equal(b, summed(c.b, ips[0], ips[1])) {
				t.Errorf("%s, %d: % x, %v", c.name, i, b, err)
			}
		}
	}
}

// P8.1: the sum takes in UDP's number, and how many bytes are told, once more than they stand in the bytes.
func TestWhatIsSummedAhead(t *testing.T) {
	right := told(20, 20)
	for _, less := range []int{0x11, 20, 0x11 + 20, 0x11 - 6, 0x11 - 1} {
		// Such a sum lacks something, or has TCP's or ICMP's number instead.
		n := (int(right[6])<<8 + int(right[7]) + less) % 65535
		b := bytes.Clone(right)
		b[6], b[7] = byte(n>>8), byte(n)
		d, err := read(b)
		isFault(t, "a sum that lacks something", d, err, why.RSum, api.ErrSum)
	}
}

// P8.1: every number in the sum's place: one is the own sum, 0 is of a bare one, all others are wrong.
func TestEverySum(t *testing.T) {
	for _, c := range known() {
		right := summed(c.b, c.from, c.to)
		for n := range 65536 {
			b := bytes.Clone(right)
			b[6], b[7] = byte(n>>8), byte(n)
			d, err := Parse(b, c.from, c.to)
			want := c.d
			want.Bare = n == 0
			if n == 0 || bytes.Equal(b, right) {
				isDatagram(t, c.name, d, err, want)
				continue
			}
			isFault(t, c.name+" with another sum", d, err, why.RSum, api.ErrSum)
		}
	}
}

// P8.1: of several wrong things the one that the chapter names first is told, with a sum of 0 as with a wrong one.
func TestOrder(t *testing.T) {
	for _, c := range []struct {
		name   string
		b      []byte
		reason int
		want   api.Errno
	}{
		{"too few, told too little", told(7, 11)[:7], why.RForm, api.ErrEnd},
		{"too few, told too much", told(65535, 11)[:7], why.RForm, api.ErrEnd},
		{"too few, told what is there", told(7, 8)[:7], why.RForm, api.ErrEnd},
		{"too few, all wrong", slices.Repeat([]byte{255}, 7), why.RForm, api.ErrEnd},
		{"told too little", told(7, 11), why.RForm, api.ErrForm},
		{"told too little, eight bytes", told(7, 8), why.RForm, api.ErrForm},
		{"told nothing", told(0, 11), why.RForm, api.ErrForm},
		{"told too little, too many bytes", told(7, 1481), why.RForm, api.ErrForm},
		{"told one too much", told(12, 11), why.RForm, api.ErrEnd},
		{"told 1,481, of which one lacks", told(1481, 1480), why.RForm, api.ErrEnd},
		{"told 65,535, of which one lacks", told(65535, 65_534), why.RForm, api.ErrEnd},
		{"told 1,481", told(1481, 1481), why.RForm, api.ErrRange},
		{"told 65,535", told(65535, 65_535), why.RForm, api.ErrRange},
	} {
		d, err := read(c.b)
		isFault(t, c.name, d, err, c.reason, c.want)
		if len(c.b) < 8 {
			continue
		}
		d, err = read(spoilt(c.b))
		isFault(t, c.name+", a wrong sum", d, err, c.reason, c.want)
		d, err = read(bared(c.b))
		isFault(t, c.name+", bare", d, err, c.reason, c.want)
	}
	for _, b := range [][]byte{told(8, 8), told(11, 11), told(11, 1500), told(1480, 1480), told(1480, 1481)} {
		d, err := read(spoilt(b))
		isFault(t, "a wrong sum alone", d, err, why.RSum, api.ErrSum)
		if d, err = read(bared(b)); err != nil || !d.Bare {
			t.Errorf("a sum of 0: %v", err)
		}
	}
}

// P8.1, P8.2: bodies of each length up to beyond the most, with a sum and bare.
func TestBodies(t *testing.T) {
	counts := []int{1479, 1480, 1481, 1500, 65_507, 65_527, 65_528, 65_536, 65_536 + 100, 1 << 20}
	for count := range 1476 {
		counts = append(counts, count)
	}
	for _, count := range counts {
		d := sample()
		d.Body = noise(uint32(count), count)
		for _, bare := range []bool{false, true} {
			d.Bare = bare
			b, err := d.Bytes(ipFrom, ipTo)
			if count > 1472 {
				isError(t, "too long a body", err, why.RForm, api.ErrRange)
				if len(b) != 0 {
					t.Errorf("a body of %d: %d bytes beside %v", count, len(b), err)
				}
				continue
			}
			all := count + 8
			want := fixed(slices.Concat([]byte{0x21, 0x32, 0x43, 0x54, byte(all >> 8), byte(all), 0, 0}, d.Body))
			if bare {
				want = bared(want)
			}
			if err != nil || !bytes.Equal(b, want) {
				t.Errorf("a body of %d: % x, %v; want % x", count, b, err, want)
			}
			back, err := read(b)
			isDatagram(t, "back", back, err, d)
		}
	}
}

// P8.2: Bytes goes by the body's length, not by what lies behind it; a nil body is as an empty one.
func TestBodiesEndAtTheLength(t *testing.T) {
	d := sample()
	d.Body = noise(1, 2000)[:1472]
	if b, err := d.Bytes(ipFrom, ipTo); err != nil || len(b) != 1480 {
		t.Errorf("%d bytes, %v", len(b), err)
	}
	d.Body = append(sample().Body, 7, 7)[:3]
	if b, err := d.Bytes(ipFrom, ipTo); err != nil || !bytes.Equal(b, raw()) {
		t.Errorf("% x, %v", b, err)
	}
	for _, bare := range []bool{false, true} {
		a, aErr := Datagram{From: 1, Bare: bare}.Bytes(2, 3)
		b, bErr := Datagram{From: 1, Bare: bare, Body: []byte{}}.Bytes(2, 3)
		if aErr != nil || bErr != nil || len(a) != 8 || !bytes.Equal(a, b) {
			t.Errorf("% x, %v; % x, %v", a, aErr, b, bErr)
		}
	}
}

// P8.1, P8.2: whatever the sum comes out as, it isn't 0 in the bytes of one that isn't bare, and comes back.
func TestSumOfNought(t *testing.T) {
	for _, body := range [][]byte{nil, {7}, {7, 8}, {7, 8, 9}, {0, 0}, noise(2, 99), noise(2, 100)} {
		noughts := 0
		for port := range 65536 {
			d := Datagram{From: uint16(port), To: 53, Body: body}
			b, err := d.Bytes(0x0a000001, 0x0a000002)
			if err != nil || b[6] == 0 && b[7] == 0 {
				t.Fatalf("from %d: %x %x, %v", port, b[6], b[7], err)
			}
			if b[6] != 255 || b[7] != 255 {
				continue
			}
			noughts++
			back, err := Parse(b, 0x0a000001, 0x0a000002)
			isDatagram(t, "a sum of 0", back, err, d)
			d.Bare = true
			if b, err = d.Bytes(0x0a000001, 0x0a000002); err != nil || b[6] != 0 || b[7] != 0 {
				t.Errorf("a bare one: %x %x, %v", b[6], b[7], err)
			}
		}
		if noughts != 1 {
			t.Errorf("a body of %d: %d ports have a sum of 0", len(body), noughts)
		}
	}
}

// others: datagrams, each of which differs from sample in one thing.
func others() []Datagram {
	var list []Datagram
	add := func(change func(d *Datagram)) {
		d := sample()
		change(&d)
		list = append(list, d)
	}
	for i := range 16 {
		add(func(d *Datagram) { d.From ^= 1 << i })
		add(func(d *Datagram) { d.To ^= 1 << i })
	}
	for i := range sample().Body {
		for bit := range 8 {
			add(func(d *Datagram) { d.Body[i] ^= 1 << bit })
		}
		add(func(d *Datagram) { d.Body = d.Body[:i] })
	}
	add(func(d *Datagram) { d.Bare = true })
	add(func(d *Datagram) { d.Body = append(d.Body, 0) })
	add(func(d *Datagram) { d.Body = nil })
	add(func(d *Datagram) { d.Body = d.Body[1:] })
	add(func(d *Datagram) { d.From, d.To = d.To, d.From })
	return list
}

// P8.2: Same of datagrams that differ in one field each, and of the same ones in other memory.
func TestSame(t *testing.T) {
	if !Same(sample(), sample()) || !Same(Datagram{}, Datagram{}) || !Same(Datagram{Bare: true}, Datagram{Bare: true}) {
		t.Error("the same ones differ")
	}
	if Same(Datagram{}, Datagram{Bare: true}) || Same(Datagram{Bare: true}, Datagram{}) {
		t.Error("a bare one is as one with a sum")
	}
	for i, d := range others() {
		if Same(d, sample()) || Same(sample(), d) {
			t.Errorf("%d: %v is the same", i, d)
		}
		if !Same(d, d) {
			t.Errorf("%d: %v differs from itself", i, d)
		}
	}
}

// P8.2: bodies are held against each other up to their lengths, and a nil one is as an empty one.
func TestSameBodies(t *testing.T) {
	if !Same(Datagram{}, Datagram{Body: []byte{}}) || !Same(Datagram{Body: make([]byte, 0, 5)}, Datagram{}) {
		t.Error("nil and empty differ")
	}
	long := []byte{1, 2, 3}
	if !Same(Datagram{Body: long[:2]}, Datagram{Body: []byte{1, 2}}) || Same(Datagram{Body: long[:2]}, Datagram{Body: long}) {
		t.Error("what lies behind the length counts")
	}
	if Same(Datagram{}, Datagram{Body: []byte{0}}) || Same(Datagram{Body: []byte{0}}, Datagram{}) {
		t.Error("a nought is as nothing")
	}
	a, b := noise(1, 70_000), noise(1, 70_000)
	if !Same(Datagram{Body: a}, Datagram{Body: b}) {
		t.Error("long bodies differ")
	}
	b[69_999] ^= 1
	if Same(Datagram{Body: a}, Datagram{Body: b}) {
		t.Error("long bodies that differ at the end are the same")
	}
}

// scribble writes over all of a list's memory, its spare room too: whatever else is seen to change shares it.
func scribble(x []byte) {
	for i := range x[:cap(x)] {
		x[:cap(x)][i] ^= 0xff
	}
}

// P8.2: Parse neither changes nor keeps its bytes, nor what lies behind their length, and shares nothing with them.
func TestReadingIsNew(t *testing.T) {
	for _, b := range [][]byte{
		raw(), bared(raw()), spoilt(raw()), told(7, 11), told(8, 11), told(10, 11), told(12, 11),
		told(1480, 1500), told(1480, 1480), told(1481, 1481), noise(4, 60),
	} {
		for _, count := range []int{0, 7, 8, 9, 10, 11, 30, 1480, len(b)} {
			own := append(bytes.Clone(b), noise(8, 32)...)
			before := bytes.Clone(own)
			count = min(count, len(own))
			first, _ := read(own[:count])
			second, _ := read(own[:count])
			if !bytes.Equal(own, before) {
				t.Fatalf("%d bytes are changed", count)
			}
			want := second
			want.Body = bytes.Clone(second.Body)
			scribble(first.Body)
			if !bytes.Equal(own, before) {
				t.Errorf("%d bytes: the answer shares their memory", count)
			}
			isDatagram(t, "two answers share memory", second, nil, want)
			scribble(own)
			isDatagram(t, "a later change is seen", second, nil, want)
		}
	}
}

// P8.2: Bytes neither changes nor keeps the datagram's body, and shares nothing with it, nor one answer with another.
func TestWritingIsNew(t *testing.T) {
	for _, bare := range []bool{false, true} {
		for _, count := range []int{0, 1, 2, 3, 20, 1471, 1472, 1473} {
			own, before := noise(9, 2000), noise(9, 2000)
			d := sample()
			d.Bare, d.Body = bare, own[:count]
			first, _ := d.Bytes(ipFrom, ipTo)
			second, _ := d.Bytes(ipFrom, ipTo)
			want := bytes.Clone(second)
			scribble(first)
			if !bytes.Equal(own, before) {
				t.Errorf("a body of %d: it is changed, or shared", count)
			}
			scribble(own)
			if !bytes.Equal(second, want) {
				t.Errorf("a body of %d: two answers share memory, or a later change is seen", count)
			}
			scribble(own)
			isDatagram(t, "the datagram", d, nil, Datagram{0x2132, 0x4354, bare, before[:count]})
		}
	}
}

// P8.2: Same changes nothing of what it is given.
func TestSameChangesNothing(t *testing.T) {
	own, other := noise(4, 40), noise(5, 40)
	a, b := sample(), sample()
	a.Body, b.Body = own[:20], other[:30]
	Same(a, b)
	Same(a, a)
	if !bytes.Equal(own, noise(4, 40)) || !bytes.Equal(other, noise(5, 40)) || len(a.Body) != 20 || len(b.Body) != 30 {
		t.Error("a body is changed")
	}
}

// firstWrong: the first of the chapter's errors that bytes have between two Ips, or none.
func firstWrong(b []byte, from, to uint32) (int, api.Errno) {
	switch {
	case len(b) < 8:
		return why.RForm, api.ErrEnd
	case toldOf(b) < 8:
		return why.RForm, api.ErrForm
	case toldOf(b) > len(b):
		return why.RForm, api.ErrEnd
	case toldOf(b) > 1480:
		return why.RForm, api.ErrRange
	case b[6] == 0 && b[7] == 0:
		return 0, api.OK
	case uint16(b[6])<<8|uint16(b[7]) != reckoned(b[:toldOf(b)], from, to):
		return why.RSum, api.ErrSum
	}
	return 0, api.OK
}

// P8.1, P8.2, P1: any bytes between any Ips, most of them nearly right: no call panics, the first error is told, and what is read has the bytes that it came from.
func TestAnyBytes(t *testing.T) {
	for seed := range uint32(60_000) {
		dice := noise(seed*2654435761+1, 8)
		ips := noise(seed+7, 8)
		from := uint32(ips[0])<<24 | uint32(ips[1])<<16 | uint32(ips[2])<<8 | uint32(ips[3])
		to := uint32(ips[4])<<24 | uint32(ips[5])<<16 | uint32(ips[6])<<8 | uint32(ips[7])
		size := int(dice[0]) % 70
		if dice[1]%16 == 0 {
			size += 1450
		}
		b := noise(seed, size)
		if size >= 8 && dice[2]%8 != 0 {
			all := size + int(dice[3]%8) - 6
			b[4], b[5] = byte(all>>8), byte(all)
			switch dice[4] % 8 {
			case 0:
				b = bared(b)
			case 1:
				b[6] = 0
			default:
				b = summed(b, from, to)
			}
		}
		d, err := Parse(b, from, to)
		if reason, want := firstWrong(b, from, to); want != api.OK {
			isFault(t, "Parse", d, err, reason, want)
		} else if back, backErr := d.Bytes(from, to); err != nil || backErr != nil || !bytes.Equal(back, b[:toldOf(b)]) {
			t.Fatalf("% x: %v, %v; % x, %v", b, d, err, back, backErr)
		}
	}
}

// P1: no call panics at long bytes, whatever they are.
func TestLongBytes(t *testing.T) {
	for _, count := range []int{1480, 1500, 65_535, 65_536, 1 << 22} {
		for _, all := range []int{0, 7, 8, 1480, 1481, 65535} {
			for _, b := range [][]byte{make([]byte, count), noise(1, count), slices.Repeat([]byte{255}, count)} {
				b[4], b[5] = byte(all>>8), byte(all)
				for _, ips := range [][2]uint32{{0, 0}, {math.MaxUint32, math.MaxUint32}, {ipFrom, ipTo}} {
					d, err := Parse(b, ips[0], ips[1])
					reason, want := firstWrong(b, ips[0], ips[1])
					isError(t, "Parse", err, reason, want)
					if err != nil && !isZero(d) {
						t.Errorf("%v beside %v", d, err)
					}
				}
			}
		}
	}
}

// P1: no call panics, at any datagram, and an error comes with nothing else.
func TestAnyDatagrams(t *testing.T) {
	var list []Datagram
	for _, body := range [][]byte{nil, {}, {0}, noise(1, 1472), noise(1, 1473), noise(1, 65_528), noise(1, 1<<20)} {
		for _, bare := range []bool{false, true} {
			list = append(list, Datagram{Bare: bare, Body: body}, Datagram{65535, 65535, bare, body})
		}
	}
	for _, d := range list {
		for _, ips := range [][2]uint32{{0, 0}, {math.MaxUint32, math.MaxUint32}, {ipFrom, ipTo}} {
			b, err := d.Bytes(ips[0], ips[1])
			if (err != nil) != (len(b) == 0) {
				t.Errorf("%d bytes beside %v", len(b), err)
			}
			if err == nil {
				back, err := Parse(b, ips[0], ips[1])
				isDatagram(t, "back", back, err, d)
			}
		}
		for _, other := range list {
			if Same(d, other) != Same(other, d) || !Same(d, d) {
				t.Errorf("Same of %d, %d", d.From, other.From)
			}
		}
	}
}

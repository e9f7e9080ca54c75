package inet

import (
	"bytes"
	"errors"
	"math"
	"reflect"
	"slices"
	"testing"

	"vizard/api"
	"vizard/sum"
	"vizard/why"
)

// noise: bytes without a pattern, the same ones each time.
func noise(seed uint32, count int) []byte {
	b := make([]byte, count)
	for i := range b {
		seed = seed*1664525 + 1013904223
		b[i] = byte(seed >> 24)
	}
	return b
}

// sample: a packet whose fields have bytes that all differ.
func sample() Packet {
	return Packet{Tos: 0x21, Id: 0x3243, Keep: true, Ttl: 0x54, Proto: 0x65, From: 0x71727374, To: 0x81828384, Body: []byte{0x91, 0x92, 0x93}}
}

// raw: the bytes of sample, with a sum that was reckoned elsewhere.
func raw() []byte {
	return []byte{
		0x45, 0x21, 0x00, 0x17, 0x32, 0x43, 0x40, 0x00, 0x54, 0x65, 0x0a, 0x31,
		0x71, 0x72, 0x73, 0x74, 0x81, 0x82, 0x83, 0x84,
		0x91, 0x92, 0x93,
	}
}

// fixed: bytes with the own sum of the head that the first of them tells, as far as it is there.
func fixed(b []byte) []byte {
	b = bytes.Clone(b)
	b[10], b[11] = 0, 0
	end := min(max(int(b[0]&15)*4, 12), len(b))
	total := 0
	for i, x := range b[:end] {
		if i%2 == 0 {
			total += int(x) << 8
		} else {
			total += int(x)
		}
	}
	for total > 65535 {
		total = total%65536 + total/65536
	}
	b[10], b[11] = byte((65535-total)>>8), byte(65535-total)
	return b
}

// with: the bytes of sample, some of which are others, with the sum that these have.
func with(at int, part ...byte) []byte {
	b := raw()
	copy(b[at:], part)
	return fixed(b)
}

// spoilt: bytes with another sum than their own.
func spoilt(b []byte) []byte {
	b = fixed(b)
	b[11] ^= 1
	return b
}

// told: bytes whose head has so many times four bytes, and that are told to be so many; so many are there.
func told(lines, all, there int) []byte {
	b := noise(77, max(there, 20))
	copy(b, []byte{0x40 | byte(lines), 0x21, byte(all >> 8), byte(all), 0x32, 0x43, 0x40, 0})
	return fixed(b[:there])
}

// both are the calls that read bytes.
var both = []struct {
	name string
	call func([]byte) (Packet, error)
}{{"Parse", Parse}, {"Peek", Peek}}

// isError holds an error against the one fault that is wanted, or against nil.
func isError(t *testing.T, name string, err error, reason int, want api.Errno) {
	t.Helper()
	if want == api.OK {
		if err != nil {
			t.Errorf("%s: %v", name, err)
		}
		return
	}
	// All tells a fault from a bare error of api's, which has a Reason too.
	if !slices.Equal(why.All(err), []int{reason}) || why.Errno(err) != want || !errors.Is(err, want) {
		t.Errorf("%s: %v; want %s, %d", name, err, why.Word(reason), want)
	}
}

// isFault holds what a call answered against the one fault that is wanted, beside which the packet is its zero value.
func isFault(t *testing.T, name string, p Packet, err error, reason int, want api.Errno) {
	t.Helper()
	isError(t, name, err, reason, want)
	if !isZero(p) {
		t.Errorf("%s: %v beside %v", name, p, err)
	}
}

// isZero: is a packet its zero value?
func isZero(p Packet) bool {
	return len(p.Body) == 0 && reflect.DeepEqual(p, Packet{Body: p.Body})
}

// isPacket holds what a call answered against the packet that is wanted, without Same.
func isPacket(t *testing.T, name string, p Packet, err error, want Packet) {
	t.Helper()
	alike := bytes.Equal(p.Body, want.Body)
	p.Body, want.Body = nil, nil
	if err != nil || !alike || !reflect.DeepEqual(p, want) {
		t.Errorf("%s: %v, %v; want %v (the body alike: %v)", name, p, err, want, alike)
	}
}

// The protocols have their numbers.
func TestProtocols(t *testing.T) {
	if PIcmp != 1 || PTcp != 6 || PUdp != 17 {
		t.Errorf("%d, %d, %d", PIcmp, PTcp, PUdp)
	}
}

// packets: packets, and the bytes that they have.
func packets() []struct {
	name string
	p    Packet
	b    []byte
} {
	return []struct {
		name string
		p    Packet
		b    []byte
	}{
		{"bytes that all differ", sample(), raw()},
		{"the chapter's twenty bytes", Packet{}, []byte{0x45, 0, 0, 0x14, 0, 0, 0, 0, 0, 0, 0xba, 0xeb, 0, 0, 0, 0, 0, 0, 0, 0}},
		{"ICMP, one byte", Packet{Ttl: 64, Proto: PIcmp, From: 0x0a000001, To: 0x0a000002, Body: []byte{7}},
			[]byte{0x45, 0, 0, 0x15, 0, 0, 0, 0, 0x40, 1, 0x66, 0xe6, 10, 0, 0, 1, 10, 0, 0, 2, 7}},
		{"TCP, kept, two bytes", Packet{Id: 1, Keep: true, Ttl: 1, Proto: PTcp, From: 0xc0a80001, To: 0x08080404, Body: []byte{0, 9}},
			[]byte{0x45, 0, 0, 0x16, 0, 1, 0x40, 0, 1, 6, 0xad, 0x2c, 192, 168, 0, 1, 8, 8, 4, 4, 0, 9}},
		{"UDP, four bytes", Packet{Id: 256, Ttl: 255, Proto: PUdp, From: 0xc0000201, To: math.MaxUint32, Body: []byte{1, 2, 3, 4}},
			[]byte{0x45, 0, 0, 0x18, 1, 0, 0, 0, 255, 17, 0xf8, 0xd3, 192, 0, 2, 1, 255, 255, 255, 255, 1, 2, 3, 4}},
		{"the greatest numbers", Packet{Tos: 255, Id: 65535, Keep: true, Ttl: 255, Proto: 255, From: math.MaxUint32, To: math.MaxUint32},
			[]byte{0x45, 255, 0, 0x14, 255, 255, 0x40, 0, 255, 255, 0x79, 0xec, 255, 255, 255, 255, 255, 255, 255, 255}},
		{"a sum that is 0", Packet{Id: 0xbaeb}, []byte{0x45, 0, 0, 0x14, 0xba, 0xeb, 0, 0, 0, 0, 0, 0, 0, 0, 0, 0, 0, 0, 0, 0}},
	}
}

// P7.1, P7.2, P7.3: bytes have their packet, and the packet its head and its bytes.
func TestThereAndBack(t *testing.T) {
	for _, c := range packets() {
		for _, read := range both {
			p, err := read.call(c.b)
			isPacket(t, read.name+" of "+c.name, p, err, c.p)
		}
		b, err := c.p.Bytes()
		if err != nil || !bytes.Equal(b, c.b) {
			t.Errorf("%s: % x, %v; want % x", c.name, b, err, c.b)
		}
		if h := c.p.Head(); !bytes.Equal(h, c.b[:20]) {
			t.Errorf("%s: a head % x; want % x", c.name, h, c.b[:20])
		}
	}
}

// P7.1, P7.3: every protocol, with Keep and without, with bodies of all lengths about a pair, there and back.
func TestEveryProtocol(t *testing.T) {
	for proto := range 256 {
		for count := range 5 {
			for _, keep := range []bool{false, true} {
				p := sample()
				p.Proto, p.Keep, p.Body = byte(proto), keep, noise(uint32(proto), count)
				b, err := p.Bytes()
				isError(t, "Bytes", err, 0, api.OK)
				back, err := Parse(b)
				isPacket(t, "Parse", back, err, p)
				back, err = Peek(b)
				isPacket(t, "Peek", back, err, p)
			}
		}
	}
}

// P7.1, P7.2: each bit of the fields stands where it should, and in no other field.
func TestEachBit(t *testing.T) {
	for bit := range 64 {
		from, to := uint32(1)<<(bit%32), uint32(0)
		if bit >= 32 {
			from, to = to, from
		}
		for _, p := range []Packet{{From: from, To: to}, {Id: 1 << (bit % 16)}, {Tos: 1 << (bit % 8)}, {Ttl: 1 << (bit % 8)}, {Proto: 1 << (bit % 8)}} {
			b := make([]byte, 20)
			copy(b, []byte{0x45, p.Tos, 0, 20, byte(p.Id >> 8), byte(p.Id), 0, 0, p.Ttl, p.Proto})
			b[12], b[13], b[14], b[15] = byte(p.From>>24), byte(p.From>>16), byte(p.From>>8), byte(p.From)
			b[16], b[17], b[18], b[19] = byte(p.To>>24), byte(p.To>>16), byte(p.To>>8), byte(p.To)
			b = fixed(b)
			for _, read := range both {
				got, err := read.call(b)
				isPacket(t, read.name, got, err, p)
			}
			if h := p.Head(); !bytes.Equal(h, b) {
				t.Errorf("%v: % x; want % x", p, h, b)
			}
		}
	}
}

// P7.1, P7.2: of each count of bytes below twenty, whatever they are, RForm with ErrEnd.
func TestTooFew(t *testing.T) {
	for _, read := range both {
		for count := range 20 {
			for _, b := range [][]byte{
				raw(), with(0, 0x55), with(0, 0x44), with(0, 0x4f), with(2, 0, 0), with(6, 255), spoilt(raw()),
				noise(3, 20), make([]byte, 20), slices.Repeat([]byte{255}, 20),
			} {
				// Once with nothing behind them, once with the rest behind their length.
				p, err := read.call(bytes.Clone(b[:count]))
				isFault(t, read.name, p, err, why.RForm, api.ErrEnd)
				p, err = read.call(b[:count])
				isFault(t, read.name+" of more", p, err, why.RForm, api.ErrEnd)
			}
		}
		for _, b := range [][]byte{nil, {}, make([]byte, 0, 40)} {
			p, err := read.call(b)
			isFault(t, read.name+" of none", p, err, why.RForm, api.ErrEnd)
		}
	}
}

// P7.1, P7.2: 19 bytes are too few, 20 and 21 aren't.
func TestAtTheLeast(t *testing.T) {
	for _, read := range both {
		b := with(2, 0, 20)[:21]
		want := sample()
		want.Body = nil
		p, err := read.call(b[:19])
		isFault(t, read.name+" of 19", p, err, why.RForm, api.ErrEnd)
		p, err = read.call(b[:20])
		isPacket(t, read.name+" of 20", p, err, want)
		p, err = read.call(b)
		isPacket(t, read.name+" of 21, told 20", p, err, want)
		b = with(2, 0, 21)[:21]
		want.Body = []byte{0x91}
		p, err = read.call(b)
		isPacket(t, read.name+" of 21", p, err, want)
	}
}

// P7.1, P7.2: every first byte: just the version 4 is right, and a head of just twenty bytes.
func TestFirstByte(t *testing.T) {
	for _, read := range both {
		for first := range 256 {
			b := noise(8, 70)
			copy(b, raw()[:20])
			b[0], b[3] = byte(first), 70
			p, err := read.call(fixed(b))
			switch lines := first % 16; {
			case first/16 != 4:
				isFault(t, read.name+" of another version", p, err, why.RVersion, api.ErrVersion)
			case lines < 5:
				isFault(t, read.name+" of too short a head", p, err, why.RForm, api.ErrForm)
			case lines > 5:
				isFault(t, read.name+" of a head with options", p, err, why.ROption, api.ErrOption)
			default:
				want := sample()
				want.Body = b[20:]
				isPacket(t, read.name, p, err, want)
			}
		}
	}
}

// P7.1, P7.2: heads of each size, of which all is there, or one byte lacks.
func TestHeadSizes(t *testing.T) {
	for _, read := range both {
		for lines := 6; lines <= 15; lines++ {
			head := lines * 4
			for there := 20; there < head; there++ {
				for _, all := range []int{0, 19, 20, there, head - 1, head, head + 1, 65535} {
					p, err := read.call(told(lines, all, there))
					isFault(t, read.name+" of a head that lacks", p, err, why.RForm, api.ErrEnd)
				}
			}
			for _, more := range []int{0, 1, 2, 50} {
				p, err := read.call(told(lines, head, head+more))
				isFault(t, read.name+" of options alone", p, err, why.ROption, api.ErrOption)
				p, err = read.call(told(lines, head+more, head+more))
				isFault(t, read.name+" of options and a body", p, err, why.ROption, api.ErrOption)
				for _, less := range []int{1, head - 20, head} {
					p, err = read.call(told(lines, head-less, head+more))
					isFault(t, read.name+" of less than its head", p, err, why.RForm, api.ErrForm)
				}
			}
		}
		for lines := range 5 {
			for _, all := range []int{0, lines * 4, 19, 20, 40, 41, 65535} {
				p, err := read.call(told(lines, all, 40))
				isFault(t, read.name+" of too short a head", p, err, why.RForm, api.ErrForm)
			}
		}
	}
}

// P7.1, P7.2: whatever a packet is told to have: less than its head, up to what is there, and more.
func TestEveryTold(t *testing.T) {
	for _, there := range []int{20, 21, 23, 40, 1500} {
		for all := range 65536 {
			if all > 2000 && all%251 != 0 && all < 65530 {
				continue
			}
			b := told(5, all, there)
			want := Packet{Tos: 0x21, Id: 0x3243, Keep: true, Ttl: b[8], Proto: b[9]}
			want.From = uint32(b[12])<<24 | uint32(b[13])<<16 | uint32(b[14])<<8 | uint32(b[15])
			want.To = uint32(b[16])<<24 | uint32(b[17])<<16 | uint32(b[18])<<8 | uint32(b[19])
			if all >= 20 {
				want.Body = b[20:min(all, there)]
			}
			p, err := Parse(b)
			q, peekErr := Peek(b)
			switch {
			case all > there:
				isFault(t, "Parse of more than there is", p, err, why.RForm, api.ErrEnd)
				isPacket(t, "Peek of more than there is", q, peekErr, want)
			case all < 20:
				isFault(t, "Parse of less than a head", p, err, why.RForm, api.ErrForm)
				isFault(t, "Peek of less than a head", q, peekErr, why.RForm, api.ErrForm)
			default:
				isPacket(t, "Parse", p, err, want)
				isPacket(t, "Peek", q, peekErr, want)
			}
		}
	}
}

// P7.1, P7.2: a body ends where it is told to end, however much stands behind it, and whatever that is.
func TestBytesBehindTheEnd(t *testing.T) {
	for _, read := range both {
		for _, count := range []int{0, 1, 2, 17, 1480, 65_515, 100_000} {
			for _, tail := range [][]byte{make([]byte, count), noise(5, count), slices.Repeat([]byte{255}, count)} {
				p, err := read.call(slices.Concat(raw(), tail))
				isPacket(t, read.name+" with a tail", p, err, sample())
			}
		}
		p, err := read.call(slices.Concat(raw(), raw()))
		isPacket(t, read.name+" of two packets", p, err, sample())
	}
}

// P7.1: a packet of the most that two bytes tell may be read, though Bytes writes none so long.
func TestParseOfTheLongest(t *testing.T) {
	for _, all := range []int{1500, 1501, 1514, 65534, 65535} {
		b := told(5, all, all)
		for _, read := range both {
			p, err := read.call(b)
			if err != nil || !bytes.Equal(p.Body, b[20:]) {
				t.Errorf("%s, %d: a body of %d, %v", read.name, all, len(p.Body), err)
			}
		}
	}
}

// P7.1, P7.2: each bit of the head by itself makes the sum wrong, unless something that is told earlier is wrong; Peek doesn't look.
func TestEachBitOfTheSum(t *testing.T) {
	for at := range 20 {
		for bit := range 8 {
			if at == 0 || at == 2 || at == 3 {
				// There other errors come first, or the packet gets other bounds.
				continue
			}
			b := raw()
			b[at] ^= 1 << bit
			p, err := Parse(b)
			isFault(t, "Parse", p, err, why.RSum, api.ErrSum)
			p, err = Peek(b)
			if at == 6 && bit != 6 || at == 7 {
				isFault(t, "Peek", p, err, why.RFrag, api.ErrFrag)
			} else if err != nil {
				t.Errorf("Peek, byte %d, bit %d: %v", at, bit, err)
			}
		}
	}
}

// P7.1: the body isn't summed, nor what stands behind the packet.
func TestSumOfTheHeadAlone(t *testing.T) {
	for at := 20; at < 30; at++ {
		b := append(raw(), make([]byte, 7)...)
		b[at] ^= 0x55
		want := sample()
		want.Body = b[20:23]
		p, err := Parse(b)
		isPacket(t, "Parse", p, err, want)
	}
}

// P7.1: the sum is that of the head with its options, and told ahead of them.
func TestSumWithOptions(t *testing.T) {
	for lines := 6; lines <= 15; lines++ {
		right := told(lines, lines*4+3, lines*4+3)
		p, err := Parse(right)
		isFault(t, "a right sum", p, err, why.ROption, api.ErrOption)
		for at := 20; at < lines*4; at++ {
			b := bytes.Clone(right)
			b[at] ^= 0x10
			p, err = Parse(b)
			isFault(t, "a wrong byte among the options", p, err, why.RSum, api.ErrSum)
			p, err = Peek(b)
			isFault(t, "Peek of it", p, err, why.ROption, api.ErrOption)
		}
		b := bytes.Clone(right)
		b[lines*4] ^= 0x10
		p, err = Parse(b)
		isFault(t, "another byte of the body", p, err, why.ROption, api.ErrOption)
		// A head that is right without its options, but not with them.
		b = bytes.Clone(right)
		b[10], b[11] = 0, 0
		n := sum.Of(b[:20])
		b[10], b[11] = byte(n>>8), byte(n)
		p, err = Parse(b)
		isFault(t, "a sum of twenty bytes", p, err, why.RSum, api.ErrSum)
	}
}

// P7.1: every number in the sum's place: just one is the head's own; 0 and 65,535 where the own one is neither.
func TestEverySum(t *testing.T) {
	right := raw()
	for n := range 65536 {
		b := raw()
		b[10], b[11] = byte(n>>8), byte(n)
		p, err := Parse(b)
		if bytes.Equal(b, right) {
			isPacket(t, "the own sum", p, err, sample())
		} else {
			isFault(t, "another sum", p, err, why.RSum, api.ErrSum)
		}
		p, err = Peek(b)
		isPacket(t, "Peek", p, err, sample())
	}
}

// P7.1: a head whose sum is 0 has it with 0 and, by layer 3's total, with 65,535 in its place, and with nothing else.
func TestSumOfNought(t *testing.T) {
	for n := range 65536 {
		b := []byte{0x45, 0, 0, 20, 0xba, 0xeb, 0, 0, 0, 0, byte(n >> 8), byte(n), 0, 0, 0, 0, 0, 0, 0, 0}
		p, err := Parse(b)
		if n == 0 || n == 65535 {
			isPacket(t, "a sum of 0", p, err, Packet{Id: 0xbaeb})
		} else {
			isFault(t, "another sum", p, err, why.RSum, api.ErrSum)
		}
		if (err == nil) != sum.Right(b) {
			t.Errorf("%d: %v, but layer 3 says %v", n, err, sum.Right(b))
		}
	}
}

// P7.1, P7.2: of all pairs of bytes behind Id just two are any: each other bit by itself, and with Keep's, is a fragment's.
func TestEveryCut(t *testing.T) {
	for _, read := range both {
		for cut := range 65536 {
			p, err := read.call(with(6, byte(cut>>8), byte(cut)))
			if cut == 0 || cut == 0x4000 {
				want := sample()
				want.Keep = cut != 0
				isPacket(t, read.name, p, err, want)
				continue
			}
			isFault(t, read.name+" of a fragment", p, err, why.RFrag, api.ErrFrag)
		}
	}
}

// P7.1, P7.2: of several wrong things the one that the chapter names first is told; Peek passes over two of them.
func TestOrder(t *testing.T) {
	frag := func(b []byte) []byte {
		b[6] |= 0x20
		return fixed(b)
	}
	for _, c := range []struct {
		name         string
		b            []byte
		reason       int
		want         api.Errno
		peek         int
		wantFromPeek api.Errno
	}{
		{"too few, another version", with(0, 0x65)[:19], why.RForm, api.ErrEnd, why.RForm, api.ErrEnd},
		{"too few, all wrong", slices.Repeat([]byte{255}, 19), why.RForm, api.ErrEnd, why.RForm, api.ErrEnd},
		{"noughts", make([]byte, 20), why.RVersion, api.ErrVersion, why.RVersion, api.ErrVersion},
		{"all wrong", slices.Repeat([]byte{255}, 20), why.RVersion, api.ErrVersion, why.RVersion, api.ErrVersion},
		{"another version, too short a head", with(0, 0x64), why.RVersion, api.ErrVersion, why.RVersion, api.ErrVersion},
		{"another version, the head lacks", with(0, 0x6f), why.RVersion, api.ErrVersion, why.RVersion, api.ErrVersion},
		{"another version, told too much", with(0, 0x35, 0, 255, 255), why.RVersion, api.ErrVersion, why.RVersion, api.ErrVersion},
		{"another version, told too little", with(0, 0x35, 0, 0, 3), why.RVersion, api.ErrVersion, why.RVersion, api.ErrVersion},
		{"another version, a wrong sum", spoilt(with(0, 0x65)), why.RVersion, api.ErrVersion, why.RVersion, api.ErrVersion},
		{"another version, a fragment", frag(with(0, 0x65)), why.RVersion, api.ErrVersion, why.RVersion, api.ErrVersion},
		{"too short a head, told too much", with(0, 0x44, 0, 1, 0), why.RForm, api.ErrForm, why.RForm, api.ErrForm},
		{"too short a head, told too little", with(0, 0x44, 0, 0, 15), why.RForm, api.ErrForm, why.RForm, api.ErrForm},
		{"too short a head, a wrong sum", spoilt(with(0, 0x44)), why.RForm, api.ErrForm, why.RForm, api.ErrForm},
		{"too short a head, a fragment", frag(with(0, 0x44)), why.RForm, api.ErrForm, why.RForm, api.ErrForm},
		{"the head lacks, told too little", with(0, 0x46, 0, 0, 20), why.RForm, api.ErrEnd, why.RForm, api.ErrEnd},
		{"the head lacks, told nothing", with(0, 0x4f, 0, 0, 0), why.RForm, api.ErrEnd, why.RForm, api.ErrEnd},
		{"the head lacks, told too much", with(0, 0x4f, 0, 255, 255), why.RForm, api.ErrEnd, why.RForm, api.ErrEnd},
		{"the head lacks, a wrong sum", spoilt(with(0, 0x46)), why.RForm, api.ErrEnd, why.RForm, api.ErrEnd},
		{"the head lacks, a fragment", frag(with(0, 0x46)), why.RForm, api.ErrEnd, why.RForm, api.ErrEnd},
		{"told too much, a wrong sum", spoilt(with(2, 0, 24)), why.RForm, api.ErrEnd, 0, api.OK},
		{"told too much, a fragment", frag(with(2, 0, 24)), why.RForm, api.ErrEnd, why.RFrag, api.ErrFrag},
		{"told too much, options", told(6, 31, 30), why.RForm, api.ErrEnd, why.ROption, api.ErrOption},
		{"told too much, options, a fragment", frag(told(6, 31, 30)), why.RForm, api.ErrEnd, why.ROption, api.ErrOption},
		{"told too little, a wrong sum", spoilt(with(2, 0, 19)), why.RForm, api.ErrForm, why.RForm, api.ErrForm},
		{"told too little, options", told(6, 23, 30), why.RForm, api.ErrForm, why.RForm, api.ErrForm},
		{"told too little, options, a wrong sum", spoilt(told(6, 20, 30)), why.RForm, api.ErrForm, why.RForm, api.ErrForm},
		{"told too little, a fragment", frag(with(2, 0, 19)), why.RForm, api.ErrForm, why.RForm, api.ErrForm},
		{"a wrong sum, options", spoilt(told(7, 30, 30)), why.RSum, api.ErrSum, why.ROption, api.ErrOption},
		{"a wrong sum, a fragment", spoilt(with(6, 0x20)), why.RSum, api.ErrSum, why.RFrag, api.ErrFrag},
		{"a wrong sum, options, a fragment", spoilt(frag(told(7, 30, 30))), why.RSum, api.ErrSum, why.ROption, api.ErrOption},
		{"options, a fragment", frag(told(7, 30, 30)), why.ROption, api.ErrOption, why.ROption, api.ErrOption},
	} {
		p, err := Parse(c.b)
		isFault(t, "Parse: "+c.name, p, err, c.reason, c.want)
		p, err = Peek(c.b)
		if c.wantFromPeek == api.OK {
			isError(t, "Peek: "+c.name, err, 0, api.OK)
			continue
		}
		isFault(t, "Peek: "+c.name, p, err, c.peek, c.wantFromPeek)
	}
}

// P7.2: of a body any part of the end may lack, also all of it, and the sum may be wrong.
func TestPeek(t *testing.T) {
	p := sample()
	p.Body = noise(6, 1480)
	all, _ := p.Bytes()
	for count := 20; count <= len(all); count++ {
		for _, b := range [][]byte{all, spoilt(all)} {
			want := p
			want.Body = p.Body[:count-20]
			// Once with nothing behind them, once with the rest behind their length.
			got, err := Peek(bytes.Clone(b[:count]))
			isPacket(t, "Peek", got, err, want)
			got, err = Peek(b[:count])
			isPacket(t, "Peek of more", got, err, want)
		}
		if got, err := Parse(all[:count]); count < len(all) {
			isFault(t, "Parse", got, err, why.RForm, api.ErrEnd)
		}
	}
}

// P7.3: Bytes and Head of bodies up to the most, and beyond it.
func TestBodies(t *testing.T) {
	for _, c := range []struct {
		count int
		want  api.Errno
		head  bool
	}{
		{0, api.OK, true}, {1, api.OK, true}, {2, api.OK, true}, {235, api.OK, true}, {236, api.OK, true}, {1479, api.OK, true}, {1480, api.OK, true},
		{1481, api.ErrRange, true}, {1500, api.ErrRange, true}, {65_514, api.ErrRange, true}, {65_515, api.ErrRange, true},
		{65_516, api.ErrRange, false}, {65_535, api.ErrRange, false}, {65_536, api.ErrRange, false}, {65_536 + 100, api.ErrRange, false}, {1 << 20, api.ErrRange, false},
	} {
		p := sample()
		p.Body = noise(uint32(c.count), c.count)
		all := c.count + 20
		head := fixed([]byte{0x45, 0x21, byte(all >> 8), byte(all), 0x32, 0x43, 0x40, 0, 0x54, 0x65, 0, 0, 0x71, 0x72, 0x73, 0x74, 0x81, 0x82, 0x83, 0x84})
		b, err := p.Bytes()
		isError(t, "Bytes", err, why.RForm, c.want)
		if want := slices.Concat(head, p.Body); c.want == api.OK && !bytes.Equal(b, want) {
			t.Errorf("a body of %d: % x; want % x", c.count, b, want)
		}
		if c.want != api.OK && len(b) != 0 {
			t.Errorf("a body of %d: %d bytes beside %v", c.count, len(b), err)
		}
		got := p.Head()
		if c.head && (!bytes.Equal(got, head) || !sum.Right(got)) {
			t.Errorf("a body of %d: a head % x; want % x", c.count, got, head)
		}
		if !c.head && len(got) != 0 {
			t.Errorf("a body of %d: a head % x", c.count, got)
		}
	}
}

// P7.3: Bytes and Head go by the body's length, not by what lies behind it; a nil body is as an empty one.
func TestBodiesEndAtTheLength(t *testing.T) {
	p := Packet{Body: noise(1, 65_516)[:1480]}
	if b, err := p.Bytes(); err != nil || len(b) != 1500 {
		t.Errorf("%d bytes, %v", len(b), err)
	}
	p.Body = p.Body[:65_515]
	if len(p.Head()) != 20 {
		t.Error("no head")
	}
	want := []byte{0x45, 0, 0, 0x14, 0, 0, 0, 0, 0, 0, 0xba, 0xeb, 0, 0, 0, 0, 0, 0, 0, 0}
	for _, body := range [][]byte{nil, {}, make([]byte, 0, 9)} {
		b, err := Packet{Body: body}.Bytes()
		if err != nil || !bytes.Equal(b, want) || !bytes.Equal(Packet{Body: body}.Head(), want) {
			t.Errorf("% x, %v", b, err)
		}
	}
}

// P7.3: a head that is written has its own sum, as layer 3 tells it: that of the head with noughts in its place.
func TestHeadHasItsSum(t *testing.T) {
	for seed := range uint32(5000) {
		x := noise(seed, 14)
		p := Packet{
			Tos: x[0], Id: uint16(x[1])<<8 | uint16(x[2]), Keep: x[3]%2 == 1, Ttl: x[4], Proto: x[5],
			From: uint32(x[6])<<24 | uint32(x[7])<<16 | uint32(x[8])<<8 | uint32(x[9]),
			To:   uint32(x[10])<<24 | uint32(x[11])<<16 | uint32(x[12])<<8 | uint32(x[13]),
			Body: make([]byte, seed%300),
		}
		h := p.Head()
		n := uint16(h[10])<<8 | uint16(h[11])
		bare := slices.Concat(h[:10], []byte{0, 0}, h[12:])
		if !sum.Right(h) || n != sum.Of(bare) || n == 65535 {
			t.Fatalf("% x", h)
		}
		if !bytes.Equal(fixed(h), h) {
			t.Fatalf("% x; want % x", h, fixed(h))
		}
	}
}

// others: packets each of which differs from sample in one thing.
func others() []Packet {
	var list []Packet
	add := func(change func(p *Packet)) {
		p := sample()
		change(&p)
		list = append(list, p)
	}
	for i := range 32 {
		add(func(p *Packet) { p.Tos ^= 1 << (i % 8) })
		add(func(p *Packet) { p.Id ^= 1 << (i % 16) })
		add(func(p *Packet) { p.Ttl ^= 1 << (i % 8) })
		add(func(p *Packet) { p.Proto ^= 1 << (i % 8) })
		add(func(p *Packet) { p.From ^= 1 << i })
		add(func(p *Packet) { p.To ^= 1 << i })
	}
	for i := range sample().Body {
		add(func(p *Packet) { p.Body[i] ^= 1 })
		add(func(p *Packet) { p.Body = p.Body[:i] })
	}
	add(func(p *Packet) { p.Keep = false })
	add(func(p *Packet) { p.Body = append(p.Body, 0) })
	add(func(p *Packet) { p.Body = nil })
	add(func(p *Packet) { p.Body = p.Body[1:] })
	add(func(p *Packet) { p.From, p.To = p.To, p.From })
	add(func(p *Packet) { p.Ttl, p.Proto = p.Proto, p.Ttl })
	return list
}

// P7.3: Same of packets that differ in one field each, and of the same ones in other memory.
func TestSame(t *testing.T) {
	if !Same(sample(), sample()) || !Same(Packet{}, Packet{}) {
		t.Error("the same ones differ")
	}
	for i, p := range others() {
		if Same(p, sample()) || Same(sample(), p) {
			t.Errorf("%d: %v is the same", i, p)
		}
		if !Same(p, p) {
			t.Errorf("%d: %v differs from itself", i, p)
		}
	}
}

// P7.3: bodies are held against each other up to their lengths, and a nil one is as an empty one.
func TestSameBodies(t *testing.T) {
	if !Same(Packet{}, Packet{Body: []byte{}}) || !Same(Packet{Body: make([]byte, 0, 5)}, Packet{}) {
		t.Error("nil and empty differ")
	}
	long := []byte{1, 2, 3}
	if !Same(Packet{Body: long[:2]}, Packet{Body: []byte{1, 2}}) || Same(Packet{Body: long[:2]}, Packet{Body: long}) {
		t.Error("what lies behind the length counts")
	}
	if Same(Packet{}, Packet{Body: []byte{0}}) || Same(Packet{Body: []byte{0}}, Packet{}) {
		t.Error("a nought is as nothing")
	}
	a, b := noise(1, 70_000), noise(1, 70_000)
	if !Same(Packet{Body: a}, Packet{Body: b}) {
		t.Error("long bodies differ")
	}
	b[69_999] ^= 1
	if Same(Packet{Body: a}, Packet{Body: b}) {
		t.Error("long bodies that differ at the end are the same")
	}
}

// scribble writes over all of a list's memory, its spare room too: whatever else is seen to change shares it.
func scribble(x []byte) {
	for i := range x[:cap(x)] {
		x[:cap(x)][i] ^= 0xff
	}
}

// P7.3: Parse and Peek neither change nor keep their bytes, nor what lies behind their length, and share nothing with them.
func TestReadingIsNew(t *testing.T) {
	for _, read := range both {
		for _, b := range [][]byte{
			raw(), with(2, 0, 20), with(2, 0, 22), with(2, 0, 60), with(0, 0x55), with(0, 0x44), with(0, 0x46), with(6, 0x20), spoilt(raw()),
			told(6, 40, 40), told(5, 1500, 1500), told(5, 1500, 700), noise(4, 60),
		} {
			for _, count := range []int{0, 19, 20, 21, 22, 23, 30, len(b)} {
				own := append(bytes.Clone(b), noise(8, 32)...)
				before := bytes.Clone(own)
				count = min(count, len(own))
				first, _ := read.call(own[:count])
				second, _ := read.call(own[:count])
				if !bytes.Equal(own, before) {
					t.Fatalf("%s of %d bytes changed them", read.name, count)
				}
				want := second
				want.Body = bytes.Clone(second.Body)
				scribble(first.Body)
				if !bytes.Equal(own, before) {
					t.Errorf("%s of %d bytes: the answer shares their memory", read.name, count)
				}
				isPacket(t, read.name+": two answers share memory", second, nil, want)
				scribble(own)
				isPacket(t, read.name+": a later change is seen", second, nil, want)
			}
		}
	}
}

// P7.3: Bytes and Head neither change nor keep the packet's body, and share nothing with it, nor with each other.
func TestWritingIsNew(t *testing.T) {
	for _, count := range []int{0, 1, 2, 3, 20, 1480, 1481, 65_515, 65_516} {
		own, before := noise(9, 70_000), noise(9, 70_000)
		p := sample()
		p.Body = own[:count]
		first, _ := p.Bytes()
		second, _ := p.Bytes()
		firstHead, secondHead := p.Head(), p.Head()
		want, wantHead := bytes.Clone(second), bytes.Clone(secondHead)
		scribble(first)
		scribble(firstHead)
		if !bytes.Equal(own, before) {
			t.Errorf("a body of %d: it is changed, or shared", count)
		}
		scribble(own)
		if !bytes.Equal(second, want) || !bytes.Equal(secondHead, wantHead) {
			t.Errorf("a body of %d: two answers share memory, or a later change is seen", count)
		}
		scribble(own)
		isPacket(t, "the packet", p, nil, Packet{0x21, 0x3243, true, 0x54, 0x65, 0x71727374, 0x81828384, before[:count]})
	}
}

// P7.3: Same changes nothing of what it is given.
func TestSameChangesNothing(t *testing.T) {
	own, other := noise(4, 40), noise(5, 40)
	a, b := sample(), sample()
	a.Body, b.Body = own[:20], other[:30]
	Same(a, b)
	Same(a, a)
	if !bytes.Equal(own, noise(4, 40)) || !bytes.Equal(other, noise(5, 40)) || len(a.Body) != 20 || len(b.Body) != 30 {
		t.Error("a body is changed")
	}
}

// rule is one of the chapter's errors, with when it comes; peek: does Peek have it, too?
type rule struct {
	reason int
	e      api.Errno
	peek   bool
	wrong  func(b []byte) bool
}

// rules: the chapter's errors, in its order; each may lean on none of those above it being so.
func rules() []rule {
	head := func(b []byte) int { return int(b[0]%16) * 4 }
	all := func(b []byte) int { return int(b[2])*256 + int(b[3]) }
	return []rule{
		{why.RForm, api.ErrEnd, true, func(b []byte) bool { return len(b) < 20 }},
		{why.RVersion, api.ErrVersion, true, func(b []byte) bool { return b[0]/16 != 4 }},
		{why.RForm, api.ErrForm, true, func(b []byte) bool { return head(b) < 20 }},
		{why.RForm, api.ErrEnd, true, func(b []byte) bool { return len(b) < head(b) }},
		{why.RForm, api.ErrEnd, false, func(b []byte) bool { return len(b) < all(b) }},
		{why.RForm, api.ErrForm, true, func(b []byte) bool { return all(b) < head(b) }},
		{why.RSum, api.ErrSum, false, func(b []byte) bool { return sum.Total(b[:head(b)]) != 65535 }},
		{why.ROption, api.ErrOption, true, func(b []byte) bool { return head(b) > 20 }},
		{why.RFrag, api.ErrFrag, true, func(b []byte) bool { return b[6]&0xbf != 0 || b[7] != 0 }},
	}
}

// firstWrong: the first of the chapter's errors that bytes have, or none.
func firstWrong(b []byte, peek bool) (int, api.Errno) {
	for _, r := range rules() {
		if (r.peek || !peek) && r.wrong(b) {
			return r.reason, r.e
		}
	}
	return 0, api.OK
}

// P7.1, P7.2, P1: any bytes, most of them nearly right: no call panics, each tells the first error, and what is read has the bytes that it came from.
func TestAnyBytes(t *testing.T) {
	firsts := []byte{0x45, 0x45, 0x45, 0x45, 0x46, 0x47, 0x4f, 0x44, 0x40, 0x55, 0x65, 0x05}
	cuts := []byte{0, 0, 0x40, 0x40, 0x20, 0x80, 0x60, 1}
	for seed := range uint32(60_000) {
		dice := noise(seed*2654435761+1, 8)
		b := noise(seed, int(dice[0])%90)
		if len(b) >= 20 && dice[1]%8 != 0 {
			b[0], b[6], b[7] = firsts[int(dice[2])%len(firsts)], cuts[int(dice[3])%len(cuts)], 0
			all := len(b) + int(dice[4]%8) - 5
			b[2], b[3] = byte(all>>8), byte(all)
			if dice[5]%4 != 0 {
				b = fixed(b)
			}
		}
		p, err := Parse(b)
		if reason, want := firstWrong(b, false); want != api.OK {
			isFault(t, "Parse", p, err, reason, want)
		} else if back, backErr := p.Bytes(); err != nil || backErr != nil || !bytes.Equal(back, b[:len(back)]) {
			t.Fatalf("% x: %v, %v; % x, %v", b, p, err, back, backErr)
		}
		q, err := Peek(b)
		if reason, want := firstWrong(b, true); want != api.OK {
			isFault(t, "Peek", q, err, reason, want)
		} else if err != nil || !bytes.Equal(q.Body, b[20:20+len(q.Body)]) {
			t.Fatalf("% x: %v, %v", b, q, err)
		}
	}
}

// P1: no call panics at long bytes, whatever they are.
func TestLongBytes(t *testing.T) {
	for _, count := range []int{60, 1500, 65_535, 65_536, 1 << 22} {
		for _, first := range []byte{0, 0x44, 0x45, 0x4f, 0xff} {
			for _, b := range [][]byte{make([]byte, count), noise(1, count), slices.Repeat([]byte{255}, count)} {
				b[0] = first
				for _, read := range both {
					if p, err := read.call(b); err != nil && !isZero(p) {
						t.Errorf("%s: %v beside %v", read.name, p, err)
					}
				}
			}
		}
	}
}

// P1: no call panics, at any packet, and an error comes with nothing else.
func TestAnyPackets(t *testing.T) {
	var list []Packet
	for _, body := range [][]byte{nil, {}, {0}, noise(1, 1480), noise(1, 1481), noise(1, 65_515), noise(1, 65_516), noise(1, 1<<20)} {
		list = append(list, Packet{Body: body}, Packet{Tos: 255, Id: 65535, Keep: true, Ttl: 255, Proto: 255, From: math.MaxUint32, To: math.MaxUint32, Body: body})
	}
	for _, p := range list {
		b, err := p.Bytes()
		if (err != nil) != (len(b) == 0) {
			t.Errorf("%d bytes beside %v", len(b), err)
		}
		if err == nil {
			back, err := Parse(b)
			isPacket(t, "Parse", back, err, p)
		}
		// A head without its body is a packet of which the end lacks.
		if h := p.Head(); len(h) > 0 {
			back, err := Peek(h)
			want := p
			want.Body = nil
			isPacket(t, "Peek", back, err, want)
		}
		for _, q := range list {
			if Same(p, q) != Same(q, p) || !Same(p, p) {
				t.Errorf("Same of %v, %v", p.Id, q.Id)
			}
		}
	}
}

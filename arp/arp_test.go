package arp

import (
	"bytes"
	"errors"
	"math"
	"slices"
	"testing"

	"vizard/api"
	"vizard/place"
	"vizard/why"
)

// single and other are interfaces' Macs, group is a group's; no two of their bytes are alike.
var (
	single = place.Mac{0xa0, 0xa1, 0xa2, 0xa3, 0xa4, 0xa5}
	other  = place.Mac{0xb0, 0xb1, 0xb2, 0xb3, 0xb4, 0xb5}
	group  = place.Mac{0xc1, 0xc2, 0xc3, 0xc4, 0xc5, 0xc6}
)

// noise: bytes without a pattern, the same ones each time.
func noise(seed uint32, count int) []byte {
	b := make([]byte, count)
	for i := range b {
		seed = seed*1664525 + 1013904223
		b[i] = byte(seed >> 24)
	}
	return b
}

// sample: a packet whose Macs and Ips have bytes that all differ.
func sample(op int) Packet {
	return Packet{Op: op, Mac: single, Ip: 0x11223344, ToMac: other, ToIp: 0x55667788}
}

// raw: the bytes of sample.
func raw(op byte) []byte {
	return []byte{
		0, 1, 8, 0, 6, 4, 0, op,
		0xa0, 0xa1, 0xa2, 0xa3, 0xa4, 0xa5, 0x11, 0x22, 0x33, 0x44,
		0xb0, 0xb1, 0xb2, 0xb3, 0xb4, 0xb5, 0x55, 0x66, 0x77, 0x88,
	}
}

// with: the bytes of sample, asking, some of which are others.
func with(at int, part ...byte) []byte {
	b := raw(OAsk)
	copy(b[at:], part)
	return b
}

// isFault holds what Parse answered against the one fault that is wanted, beside which the packet is its zero value.
func isFault(t *testing.T, name string, p Packet, err error, reason int, want api.Errno) {
	t.Helper()
	// All tells a fault from a bare error of api's, which has a Reason too.
	if !slices.Equal(why.All(err), []int{reason}) || why.Errno(err) != want || !errors.Is(err, want) {
		t.Errorf("%s: %v; want %s, %d", name, err, why.Word(reason), want)
	}
	if p != (Packet{}) {
		t.Errorf("%s: %v beside %v", name, p, err)
	}
}

// isPacket holds what Parse answered against the packet that is wanted.
func isPacket(t *testing.T, name string, p Packet, err error, want Packet) {
	t.Helper()
	if err != nil || p != want {
		t.Errorf("%s: %v, %v; want %v", name, p, err, want)
	}
}

// P6.1: the Ops have their numbers.
func TestOps(t *testing.T) {
	if OAsk != 1 || OTell != 2 {
		t.Errorf("%d, %d", OAsk, OTell)
	}
}

// packets: packets, and the bytes that they have.
func packets() []struct {
	name string
	p    Packet
	b    []byte
} {
	head := []byte{0, 1, 8, 0, 6, 4}
	return []struct {
		name string
		p    Packet
		b    []byte
	}{
		{"one that asks", sample(OAsk), raw(1)},
		{"one that tells", sample(OTell), raw(2)},
		{"the chapter's question", Packet{OAsk, place.Mac{2, 0, 0, 0, 0, 1}, 0x0a000001, place.Mac{}, 0x0a000002}, []byte{0, 1, 8, 0, 6, 4, 0, 1, 2, 0, 0, 0, 0, 1, 10, 0, 0, 1, 0, 0, 0, 0, 0, 0, 10, 0, 0, 2}},
		{"the chapter's answer", Packet{OTell, place.Mac{2, 0, 0, 0, 0, 9}, 0x0a000002, place.Mac{2, 0, 0, 0, 0, 1}, 0x0a000001}, []byte{0, 1, 8, 0, 6, 4, 0, 2, 2, 0, 0, 0, 0, 9, 10, 0, 0, 2, 2, 0, 0, 0, 0, 1, 10, 0, 0, 1}},
		{"noughts", Packet{Op: OAsk}, slices.Concat(head, []byte{0, 1}, make([]byte, 20))},
		{"a target that is a group", Packet{OTell, single, 1, group, 2}, slices.Concat(head, []byte{0, 2}, single[:], []byte{0, 0, 0, 1}, group[:], []byte{0, 0, 0, 2})},
		{"a target that is all", Packet{OAsk, single, 0x01000000, place.All(), 0x02000000}, slices.Concat(head, []byte{0, 1}, single[:], []byte{1, 0, 0, 0, 255, 255, 255, 255, 255, 255, 2, 0, 0, 0})},
		{"the greatest Ips", Packet{OAsk, other, math.MaxUint32, single, math.MaxUint32}, slices.Concat(head, []byte{0, 1}, other[:], []byte{255, 255, 255, 255}, single[:], []byte{255, 255, 255, 255})},
		{"the greatest Mac that is no group's", Packet{OAsk, place.Mac{254, 255, 255, 255, 255, 255}, 0, place.Mac{}, 0}, slices.Concat(head, []byte{0, 1, 254, 255, 255, 255, 255, 255}, make([]byte, 14))},
		{"sender and target the same", Packet{OTell, single, 7, single, 7}, slices.Concat(head, []byte{0, 2}, single[:], []byte{0, 0, 0, 7}, single[:], []byte{0, 0, 0, 7})},
	}
}

// P6.1: bytes have their packet, and the packet its bytes.
func TestThereAndBack(t *testing.T) {
	for _, c := range packets() {
		p, err := Parse(c.b)
		isPacket(t, c.name, p, err, c.p)
		if b := c.p.Bytes(); !bytes.Equal(b, c.b) {
			t.Errorf("%s: % x; want % x", c.name, b, c.b)
		}
	}
}

// P6.1: what stands behind the twenty-eight bytes is passed over, however much it is.
func TestParsePassesOver(t *testing.T) {
	for _, op := range []byte{OAsk, OTell} {
		for _, count := range []int{0, 1, 2, 18, 28, 1472, 1473, 65_508, 100_000} {
			for _, tail := range [][]byte{make([]byte, count), noise(5, count), slices.Repeat([]byte{255}, count)} {
				p, err := Parse(slices.Concat(raw(op), tail))
				isPacket(t, "a tail", p, err, sample(int(op)))
			}
		}
		p, err := Parse(slices.Concat(raw(op), raw(3-op)))
		isPacket(t, "two packets", p, err, sample(int(op)))
	}
}

// P6.1: of each count of bytes up to the least, whatever they are, RForm with ErrEnd.
func TestParseTooFew(t *testing.T) {
	for count := range 28 {
		for _, b := range [][]byte{
			raw(OAsk), raw(OTell), with(0, 9), with(5, 9), with(6, 1), with(7, 0), with(7, 3), with(8, 1),
			noise(3, 28), make([]byte, 28), slices.Repeat([]byte{255}, 28),
		} {
			// Once with nothing behind them, once with the rest behind their length.
			p, err := Parse(bytes.Clone(b[:count]))
			isFault(t, "too few", p, err, why.RForm, api.ErrEnd)
			p, err = Parse(b[:count])
			isFault(t, "too few of more", p, err, why.RForm, api.ErrEnd)
		}
	}
	for _, b := range [][]byte{nil, {}, make([]byte, 0, 40)} {
		p, err := Parse(b)
		isFault(t, "none", p, err, why.RForm, api.ErrEnd)
	}
}

// P6.1: 27 bytes are too few, 28 and 29 aren't.
func TestParseAtTheLeast(t *testing.T) {
	b := append(raw(OTell), 9)
	p, err := Parse(b[:27])
	isFault(t, "27", p, err, why.RForm, api.ErrEnd)
	p, err = Parse(b[:28])
	isPacket(t, "28", p, err, sample(OTell))
	p, err = Parse(b)
	isPacket(t, "29", p, err, sample(OTell))
}

// P6.1: each of the first six bytes, with every value: only its own is right.
func TestParseHead(t *testing.T) {
	for at := range 6 {
		for x := range 256 {
			b := with(at, byte(x))
			p, err := Parse(b)
			if byte(x) == raw(OAsk)[at] {
				isPacket(t, "the head", p, err, sample(OAsk))
				continue
			}
			isFault(t, "another head", p, err, why.RKind, api.ErrKind)
		}
	}
	for _, head := range [][]byte{{1, 0, 0, 8, 4, 6}, {0, 1, 8, 6, 6, 4}, {0, 1, 8, 0, 4, 6}, {0, 0, 0, 0, 0, 0}, {0, 6, 8, 0, 6, 4}} {
		p, err := Parse(with(0, head...))
		isFault(t, "another head", p, err, why.RKind, api.ErrKind)
	}
}

// P6.1: of all Ops of two bytes just two are any.
func TestParseOps(t *testing.T) {
	for op := range 65536 {
		p, err := Parse(with(6, byte(op>>8), byte(op)))
		if op == 1 || op == 2 {
			isPacket(t, "an Op", p, err, sample(op))
			continue
		}
		isFault(t, "no Op", p, err, why.RKind, api.ErrKind)
	}
}

// P6.1: just the first byte of the sender's Mac, and its being odd, makes it a group's; the target's may be whatever it is.
func TestParseOfGroups(t *testing.T) {
	for first := range 256 {
		p, err := Parse(with(8, byte(first), 1, 3, 5, 7, 9))
		if first%2 == 1 {
			isFault(t, "a group sends", p, err, why.RForm, api.ErrForm)
		} else {
			want := sample(OAsk)
			want.Mac = place.Mac{byte(first), 1, 3, 5, 7, 9}
			isPacket(t, "one interface sends", p, err, want)
		}
		p, err = Parse(with(18, byte(first), 1, 3, 5, 7, 9))
		want := sample(OAsk)
		want.ToMac = place.Mac{byte(first), 1, 3, 5, 7, 9}
		isPacket(t, "a target", p, err, want)
	}
	p, err := Parse(with(8, 255, 255, 255, 255, 255, 255))
	isFault(t, "all send", p, err, why.RForm, api.ErrForm)
}

// P6.1: of several wrong things the one that the chapter names first is told.
func TestParseOrder(t *testing.T) {
	for _, c := range []struct {
		name   string
		b      []byte
		reason int
		want   api.Errno
	}{
		{"too few, another head", with(0, 9)[:27], why.RForm, api.ErrEnd},
		{"too few, no Op", with(6, 0, 3)[:27], why.RForm, api.ErrEnd},
		{"too few, a group", with(8, 1)[:27], why.RForm, api.ErrEnd},
		{"too few, all wrong", slices.Repeat([]byte{255}, 27), why.RForm, api.ErrEnd},
		{"another head, no Op", with(5, 9, 0, 3), why.RKind, api.ErrKind},
		{"another head, a group", with(5, 9, 0, 1, 1), why.RKind, api.ErrKind},
		{"no Op, a group", with(6, 0, 0, 1), why.RKind, api.ErrKind},
		{"Op 3, a group", with(6, 0, 3, 3), why.RKind, api.ErrKind},
		{"all wrong", slices.Repeat([]byte{255}, 28), why.RKind, api.ErrKind},
		{"all wrong, with more behind", slices.Repeat([]byte{255}, 90), why.RKind, api.ErrKind},
		{"noughts", make([]byte, 28), why.RKind, api.ErrKind},
		{"a group that tells", with(6, 0, 2, 1), why.RForm, api.ErrForm},
		{"a group, a target that is one too", with(8, 1, 0, 0, 0, 0, 0, 0, 0, 0, 0, 1), why.RForm, api.ErrForm},
		{"the same with more behind", append(with(8, 1), noise(1, 20)...), why.RForm, api.ErrForm},
	} {
		p, err := Parse(c.b)
		isFault(t, c.name, p, err, c.reason, c.want)
	}
}

// P6.1: of an Op the two lower bytes stand there, whatever number it is.
func TestBytesOfOps(t *testing.T) {
	for _, c := range []struct {
		op        int
		high, low byte
	}{
		{0, 0, 0}, {1, 0, 1}, {2, 0, 2}, {3, 0, 3}, {255, 0, 255}, {256, 1, 0}, {257, 1, 1}, {0x1234, 0x12, 0x34},
		{65535, 255, 255}, {65536, 0, 0}, {65536 + 1, 0, 1}, {65536 + 258, 1, 2}, {1 << 40, 0, 0}, {1<<40 + 2, 0, 2},
		{-1, 255, 255}, {-2, 255, 254}, {-256, 255, 0}, {-65535, 0, 1}, {-65536, 0, 0},
		{math.MaxInt, 255, 255}, {math.MinInt, 0, 0}, {math.MinInt + 1, 0, 1},
	} {
		want := raw(OAsk)
		want[6], want[7] = c.high, c.low
		if b := sample(c.op).Bytes(); !bytes.Equal(b, want) {
			t.Errorf("Op %d: % x; want % x", c.op, b, want)
		}
	}
}

// P6.1: Bytes has no error: a sender that is a group has its bytes, too.
func TestBytesOfAGroup(t *testing.T) {
	p := sample(OAsk)
	p.Mac = group
	if b := p.Bytes(); !bytes.Equal(b, with(8, group[:]...)) {
		t.Errorf("% x", b)
	}
}

// P6.2: Ask.
func TestAsk(t *testing.T) {
	for _, c := range []struct {
		m          place.Mac
		ip, target uint32
	}{
		{place.Mac{2, 0, 0, 0, 0, 1}, 0x0a000001, 0x0a000002}, {single, 0x11223344, 0x55667788},
		{place.Mac{}, 0, 0}, {single, 5, 5}, {group, 0, math.MaxUint32}, {place.All(), math.MaxUint32, 0},
	} {
		want := Packet{Op: 1, Mac: c.m, Ip: c.ip, ToMac: place.Mac{0, 0, 0, 0, 0, 0}, ToIp: c.target}
		if p := Ask(c.m, c.ip, c.target); p != want {
			t.Errorf("%v; want %v", p, want)
		}
	}
}

// P6.2: Tell, whatever the packet does to which it is the answer, and whatever its target's Mac is.
func TestTell(t *testing.T) {
	own := place.Mac{0xd0, 0xd1, 0xd2, 0xd3, 0xd4, 0xd5}
	for _, op := range []int{OAsk, OTell, 0, 3, -1, 65537, math.MaxInt, math.MinInt} {
		for _, to := range []place.Mac{{}, other, group, place.All(), own} {
			for _, m := range []place.Mac{own, {}, single, group, place.All()} {
				p := sample(op)
				p.ToMac = to
				want := Packet{Op: 2, Mac: m, Ip: 0x55667788, ToMac: single, ToIp: 0x11223344}
				if got := p.Tell(m); got != want {
					t.Errorf("Op %d: %v; want %v", op, got, want)
				}
			}
		}
	}
	if got, want := (Packet{}).Tell(own), (Packet{Op: 2, Mac: own}); got != want {
		t.Errorf("of noughts: %v", got)
	}
}

// P6.2: the chapter's example: what is asked for is told to who asked, and both come through as bytes.
func TestExample(t *testing.T) {
	asker, owner := place.Mac{2, 0, 0, 0, 0, 1}, place.Mac{2, 0, 0, 0, 0, 2}
	asked, err := Parse(Ask(asker, 0x0a000001, 0x0a000002).Bytes())
	isPacket(t, "the question", asked, err, Packet{Op: OAsk, Mac: asker, Ip: 0x0a000001, ToIp: 0x0a000002})
	told, err := Parse(asked.Tell(owner).Bytes())
	isPacket(t, "the answer", told, err, Packet{OTell, owner, 0x0a000002, asker, 0x0a000001})
}

// scribble writes over all of a list's memory, its spare room too: whatever else is seen to change shares it.
func scribble(x []byte) {
	for i := range x[:cap(x)] {
		x[:cap(x)][i] ^= 0xff
	}
}

// P6.1: Parse neither changes nor keeps its bytes, and what lies behind their length.
func TestParseChangesNothing(t *testing.T) {
	for _, b := range [][]byte{raw(OAsk), raw(OTell), with(0, 9), with(6, 0, 3), with(8, 1), noise(4, 28)} {
		for _, count := range []int{0, 6, 27, 28, 29, 40} {
			own := append(bytes.Clone(b), noise(8, 32)...)
			before := bytes.Clone(own)
			first, firstErr := Parse(own[:count])
			if !bytes.Equal(own, before) {
				t.Fatalf("%d bytes: Parse changed them", count)
			}
			scribble(own)
			second, secondErr := Parse(before[:count])
			if first != second || why.Errno(firstErr) != why.Errno(secondErr) {
				t.Errorf("%d bytes: %v, then %v", count, first, second)
			}
		}
	}
}

// P6.1: Bytes is new memory each time, and leaves its packet as it is.
func TestBytesAreNew(t *testing.T) {
	p := sample(OTell)
	first, second := p.Bytes(), p.Bytes()
	parsed, _ := Parse(first)
	scribble(first)
	if !bytes.Equal(second, raw(OTell)) || !bytes.Equal(p.Bytes(), raw(OTell)) {
		t.Error("two answers share memory")
	}
	if p != sample(OTell) || parsed != sample(OTell) {
		t.Error("a change of the bytes changes the packet")
	}
	p.Mac[0], p.ToMac[0], p.Ip = 1, 1, 1
	if !bytes.Equal(second, raw(OTell)) {
		t.Error("a change of the packet changes the bytes")
	}
}

// P6.2: Ask and Tell change nothing that they are given, and a later change of it isn't seen.
func TestAskAndTellChangeNothing(t *testing.T) {
	m, p := other, sample(OAsk)
	asked, told := Ask(m, 1, 2), p.Tell(m)
	if m != other || p != sample(OAsk) {
		t.Error("what is handed in is changed")
	}
	wantAsked, wantTold := asked, told
	m[0], p.Mac[0], p.ToMac[0], p.Ip = 9, 9, 9, 9
	if asked != wantAsked || told != wantTold {
		t.Error("a later change is seen")
	}
	asked.Mac[1], told.Mac[1], told.ToMac[1] = 7, 7, 7
	if m[1] != other[1] || p.Mac[1] != single[1] {
		t.Error("a change of the answer is seen in what was handed in")
	}
}

// Packets may be compared, and be keys of maps.
func TestPacketsAreKeys(t *testing.T) {
	seen := map[Packet]int{sample(OAsk): 1, sample(OTell): 2}
	if seen[sample(OAsk)] != 1 || seen[sample(OTell)] != 2 || seen[Packet{}] != 0 {
		t.Errorf("%v", seen)
	}
}

// P1: no call panics, at any bytes, and with an error comes nothing else.
func TestAnyBytes(t *testing.T) {
	for count := range 80 {
		for seed := range uint32(50) {
			b := noise(seed*977+uint32(count), count)
			if seed%2 == 0 {
				copy(b, []byte{0, 1, 8, 0, 6, 4, 0, byte(seed % 4)})
			}
			p, err := Parse(b)
			if err != nil {
				if p != (Packet{}) {
					t.Errorf("% x: %v beside %v", b, p, err)
				}
				continue
			}
			if !bytes.Equal(p.Bytes(), b[:28]) {
				t.Errorf("% x: %v", b, p)
			}
		}
	}
	if p, err := Parse(make([]byte, 1<<22)); err == nil || p != (Packet{}) {
		t.Errorf("%v, %v", p, err)
	}
}

// P1: no call panics, at any packet: each has twenty-eight bytes, and an answer that may be read if it comes from one interface.
func TestAnyPackets(t *testing.T) {
	macs := []place.Mac{{}, single, other, group, place.All()}
	ips := []uint32{0, 1, 0x0a000001, math.MaxUint32}
	for _, op := range []int{math.MinInt, -1, 0, 1, 2, 3, 65536, math.MaxInt} {
		for _, m := range macs {
			for _, to := range macs {
				for _, ip := range ips {
					p := Packet{op, m, ip, to, ^ip}
					if b := p.Bytes(); len(b) != 28 {
						t.Errorf("%v: %d bytes", p, len(b))
					}
					told, err := Parse(p.Tell(to).Bytes())
					if (err == nil) == place.Group(to) || err == nil && told != p.Tell(to) {
						t.Errorf("%v: %v, %v", p, told, err)
					}
				}
			}
		}
	}
}

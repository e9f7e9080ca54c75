package icmp

import (
	"bytes"
	"errors"
	"reflect"
	"slices"
	"testing"

	"vizard/api"
	"vizard/inet"
	"vizard/why"
)

// noise: bytes without a pattern, the same ones each time.
func noise(seed uint32, count int) []byte {
	b := make([]byte, count)
	for i := range b {
		seed = seed*1664525 + 1013904223
		b[i] = byte(seed >> 24)
	}
	return b
}

// sample: a message whose fields have bytes that all differ.
func sample() Message {
	return Message{Type: 0x21, Code: 0x32, Rest: [4]byte{0x43, 0x54, 0x65, 0x76}, Body: []byte{0x91, 0x92, 0x93}}
}

// raw: the bytes of sample, with a sum that was reckoned elsewhere.
func raw() []byte {
	return []byte{0x21, 0x32, 0x11, 0x70, 0x43, 0x54, 0x65, 0x76, 0x91, 0x92, 0x93}
}

// totalOf: the total of bytes that aren't all noughts, by plain numbers instead of layer 3's.
func totalOf(b []byte) int {
	total := 0
	for i, x := range b {
		if i%2 == 0 {
			total += int(x) << 8
		} else {
			total += int(x)
		}
	}
	if total == 0 {
		return 0
	}
	return (total-1)%65535 + 1
}

// laid: bytes with a number in the sum's place.
func laid(b []byte, n int) []byte {
	b = bytes.Clone(b)
	b[2], b[3] = byte(n>>8), byte(n)
	return b
}

// fixed: bytes with their own sum.
func fixed(b []byte) []byte {
	return laid(b, 65535-totalOf(laid(b, 0)))
}

// spoilt: bytes with another sum than their own.
func spoilt(b []byte) []byte {
	b = fixed(b)
	b[2] ^= 0x40
	return b
}

// filled: so many bytes of a message, with their sum.
func filled(count int) []byte {
	return fixed(noise(uint32(count)+77, count))
}

// isError holds an error against the one fault that is wanted, or against nil.
func isError(t *testing.T, name string, err error, reason int, want api.Errno) {
	t.Helper()
	if want == api.OK {
		if err != nil {
			t.Errorf("%s: %v", name, err)
		}
		return
	}
	// All tells a fault from a bare error of api's, which has a Reason too.
	if !slices.Equal(why.All(err), []int{reason}) || why.Errno(err) != want || !errors.Is(err, want) {
		t.Errorf("%s: %v; want %s, %d", name, err, why.Word(reason), want)
	}
}

// isFault holds what Parse answered against the one fault that is wanted, beside which the message is its zero value.
func isFault(t *testing.T, name string, m Message, err error, reason int, want api.Errno) {
	t.Helper()
	isError(t, name, err, reason, want)
	if len(m.Body) != 0 || !reflect.DeepEqual(m, Message{Body: m.Body}) {
		t.Errorf("%s: %v beside %v", name, m, err)
	}
}

// isNoInner holds what Inner answered against the one fault that is wanted, beside which the packet is its zero value.
func isNoInner(t *testing.T, name string, p inet.Packet, err error, reason int, want api.Errno) {
	t.Helper()
	isError(t, name, err, reason, want)
	if len(p.Body) != 0 || !reflect.DeepEqual(p, inet.Packet{Body: p.Body}) {
		t.Errorf("%s: %v beside %v", name, p, err)
	}
}

// isMessage holds what a call answered against the message that is wanted, without Same.
func isMessage(t *testing.T, name string, m Message, err error, want Message) {
	t.Helper()
	alike := bytes.Equal(m.Body, want.Body)
	m.Body, want.Body = nil, nil
	if err != nil || !alike || !reflect.DeepEqual(m, want) {
		t.Errorf("%s: %v, %v; want %v (the body alike: %v)", name, m, err, want, alike)
	}
}

// isInner holds what Inner answered against the packet that is wanted.
func isInner(t *testing.T, name string, p inet.Packet, err error, want inet.Packet) {
	t.Helper()
	alike := bytes.Equal(p.Body, want.Body)
	p.Body, want.Body = nil, nil
	if err != nil || !alike || !reflect.DeepEqual(p, want) {
		t.Errorf("%s: %v, %v; want %v (the body alike: %v)", name, p, err, want, alike)
	}
}

// messageOf: the message of bytes that have one.
func messageOf(b []byte) Message {
	return Message{b[0], b[1], [4]byte{b[4], b[5], b[6], b[7]}, b[8:]}
}

// known: messages, of each type and each code that the chapter names, and their bytes, whose sums were reckoned elsewhere.
func known() []struct {
	name string
	m    Message
	raw  []byte
} {
	rest := [4]byte{0x12, 0x34, 0, 1}
	return []struct {
		name string
		m    Message
		raw  []byte
	}{
		{"bytes that all differ", sample(), raw()},
		{"noughts", Message{}, []byte{0, 0, 255, 255, 0, 0, 0, 0}},
		{"an echo", Message{TEcho, 0, rest, nil}, []byte{8, 0, 0xe5, 0xca, 0x12, 0x34, 0, 1}},
		{"an echo of three bytes", Message{TEcho, 0, rest, []byte{9, 8, 7}}, []byte{8, 0, 0xd5, 0xc2, 0x12, 0x34, 0, 1, 9, 8, 7}},
		{"a reply of one byte", Message{TReply, 0, rest, []byte{1}}, []byte{0, 0, 0xec, 0xca, 0x12, 0x34, 0, 1, 1}},
		{"no net", Message{Type: TGone, Code: CNet, Body: []byte{0x45}}, []byte{3, 0, 0xb7, 0xff, 0, 0, 0, 0, 0x45}},
		{"no host", Message{Type: TGone, Code: CHost, Body: []byte{0x45}}, []byte{3, 1, 0xb7, 0xfe, 0, 0, 0, 0, 0x45}},
		{"no port", Message{Type: TGone, Code: CPort, Body: []byte{0x45}}, []byte{3, 3, 0xb7, 0xfc, 0, 0, 0, 0, 0x45}},
		{"barred", Message{Type: TGone, Code: CBarred, Body: []byte{0x45}}, []byte{3, 13, 0xb7, 0xf2, 0, 0, 0, 0, 0x45}},
		{"slower", Message{Type: 4, Body: []byte{1, 2}}, []byte{4, 0, 0xfa, 0xfd, 0, 0, 0, 0, 1, 2}},
		{"late", Message{Type: TLate, Body: []byte{1, 2, 3}}, []byte{11, 0, 0xf0, 0xfd, 0, 0, 0, 0, 1, 2, 3}},
		{"wrong", Message{TWrong, 0, [4]byte{5}, []byte{1, 2, 3, 4}}, []byte{12, 0, 0xea, 0xf9, 5, 0, 0, 0, 1, 2, 3, 4}},
		{"another one", Message{13, 0, [4]byte{1, 2, 3, 4}, []byte{0, 1, 2, 3, 4}}, []byte{13, 0, 0xe8, 0xf5, 1, 2, 3, 4, 0, 1, 2, 3, 4}},
		{"the greatest numbers, whose sum is 0", Message{255, 255, [4]byte{255, 255, 255, 255}, []byte{255, 255}}, []byte{255, 255, 0, 0, 255, 255, 255, 255, 255, 255}},
		{"a sum that comes out as 0", Message{TEcho, 0, [4]byte{0xf7, 0xfe, 0, 1}, nil}, []byte{8, 0, 0, 0, 0xf7, 0xfe, 0, 1}},
		{"the same, one byte", Message{TEcho, 0, [4]byte{0xf0, 0xfe, 0, 1}, []byte{7}}, []byte{8, 0, 0, 0, 0xf0, 0xfe, 0, 1, 7}},
		{"the same, two bytes", Message{TEcho, 0, [4]byte{0xf0, 0xf6, 0, 1}, []byte{7, 8}}, []byte{8, 0, 0, 0, 0xf0, 0xf6, 0, 1, 7, 8}},
		{"the same, three bytes", Message{TReply, 0, [4]byte{0xef, 0xf6, 0, 1}, []byte{7, 8, 9}}, []byte{0, 0, 0, 0, 0xef, 0xf6, 0, 1, 7, 8, 9}},
		{"the same, an error", Message{TGone, CHost, [4]byte{0xfc, 0xfd, 0, 1}, nil}, []byte{3, 1, 0, 0, 0xfc, 0xfd, 0, 1}},
	}
}

// packet: a packet whose fields have bytes that all differ, with a body of so many bytes.
func packet(count int) inet.Packet {
	return inet.Packet{Tos: 0x31, Id: 0x4142, Keep: true, Ttl: 0x51, Proto: 0x61, From: 0x71727374, To: 0x81828384, Body: noise(uint32(count)+5, count)}
}

// rawHead: the head of packet(9), with a sum that was reckoned elsewhere.
func rawHead() []byte {
	return []byte{
		0x45, 0x31, 0x00, 0x1d, 0x41, 0x42, 0x40, 0x00, 0x51, 0x61, 0xfe, 0x1f,
		0x71, 0x72, 0x73, 0x74, 0x81, 0x82, 0x83, 0x84,
	}
}

// embedded: the head of packet(9), some of whose bytes are others, with so many of the body's bytes behind it.
func embedded(count, at int, part ...byte) []byte {
	b := rawHead()
	copy(b[at:], part)
	return slices.Concat(b, noise(14, count))
}

// shown: packet(9), with so many of the bytes that embedded lays behind the head as its body.
func shown(count int) inet.Packet {
	p := packet(9)
	p.Body = noise(14, count)
	return p
}

// The types, the codes and the classes have the chapter's numbers.
func TestNumbers(t *testing.T) {
	if TReply != 0 || TGone != 3 || TEcho != 8 || TLate != 11 || TWrong != 12 {
		t.Error(TReply, TGone, TEcho, TLate, TWrong)
	}
	if CNet != 0 || CHost != 1 || CPort != 3 || CBarred != 13 {
		t.Error(CNet, CHost, CPort, CBarred)
	}
	if COther != 0 || CError != 1 || CQuery != 2 {
		t.Error(COther, CError, CQuery)
	}
}

// P10.1: messages that are written and parsed again.
func TestThereAndBack(t *testing.T) {
	for _, c := range known() {
		b, err := c.m.Bytes()
		if err != nil || !bytes.Equal(b, c.raw) {
			t.Errorf("%s: % x, %v; want % x", c.name, b, err, c.raw)
		}
		m, err := Parse(c.raw)
		isMessage(t, c.name, m, err, c.m)
	}
}

// P10.1: each bit of what stands ahead of the body stands where it should, beside noughts and beside ones.
func TestEachBit(t *testing.T) {
	for bit := range 48 {
		for _, all := range []uint64{0, 1<<48 - 1} {
			n := all ^ 1<<bit
			want := Message{byte(n >> 40), byte(n >> 32), [4]byte{byte(n >> 24), byte(n >> 16), byte(n >> 8), byte(n)}, []byte{9}}
			b := fixed([]byte{want.Type, want.Code, 0, 0, want.Rest[0], want.Rest[1], want.Rest[2], want.Rest[3], 9})
			m, err := Parse(b)
			isMessage(t, "Parse", m, err, want)
			if got, err := want.Bytes(); err != nil || !bytes.Equal(got, b) {
				t.Errorf("% x, %v; want % x", got, err, b)
			}
		}
	}
}

// P10.1: messages of each type and each code, be they known or not.
func TestEachTypeAndCode(t *testing.T) {
	for kind := range 256 {
		for code := range 256 {
			want := Message{byte(kind), byte(code), [4]byte{1, 2, 3, 4}, []byte{5}}
			b, err := want.Bytes()
			if right := fixed([]byte{byte(kind), byte(code), 0, 0, 1, 2, 3, 4, 5}); err != nil || !bytes.Equal(b, right) {
				t.Errorf("% x, %v; want % x", b, err, right)
			}
			m, err := Parse(b)
			isMessage(t, "Parse", m, err, want)
		}
	}
}

// P10.1: of each count of bytes below eight, whatever they are, RForm with ErrEnd.
func TestTooFew(t *testing.T) {
	for count := range 8 {
		for _, b := range [][]byte{
			raw(), spoilt(raw()), filled(40), filled(8), make([]byte, 40), fixed(make([]byte, 40)), noise(3, 40), slices.Repeat([]byte{255}, 40),
		} {
			// Once with nothing behind them, once with the rest behind their length.
			m, err := Parse(bytes.Clone(b[:count]))
			isFault(t, "too few", m, err, why.RForm, api.ErrEnd)
			m, err = Parse(b[:count])
			isFault(t, "too few of more", m, err, why.RForm, api.ErrEnd)
		}
		if count >= 4 {
			m, err := Parse(filled(count))
			isFault(t, "too few, with their sum", m, err, why.RForm, api.ErrEnd)
		}
	}
	for _, b := range [][]byte{nil, {}, make([]byte, 0, 40)} {
		m, err := Parse(b)
		isFault(t, "none", m, err, why.RForm, api.ErrEnd)
	}
}

// P10.1: Parse of each count of bytes around which the errors change, with the own sum and with another one.
func TestEveryCount(t *testing.T) {
	counts := []int{1500, 65_535, 65_536, 1 << 20}
	for count := 8; count < 1490; count++ {
		counts = append(counts, count)
	}
	for _, count := range counts {
		b := filled(count)
		m, err := Parse(b)
		wrongM, wrongErr := Parse(spoilt(b))
		if count > 1480 {
			isFault(t, "too many", m, err, why.RForm, api.ErrRange)
			isFault(t, "too many, another sum", wrongM, wrongErr, why.RForm, api.ErrRange)
			continue
		}
		isMessage(t, "Parse", m, err, messageOf(b))
		isFault(t, "another sum", wrongM, wrongErr, why.RSum, api.ErrSum)
	}
}

// P10.1: the edges by name, so that they are seen beside the promise.
func TestAtTheEdges(t *testing.T) {
	for _, c := range []struct {
		name   string
		b      []byte
		reason int
		want   api.Errno
	}{
		{"7", filled(7), why.RForm, api.ErrEnd},
		{"7 noughts", make([]byte, 7), why.RForm, api.ErrEnd},
		{"7, another sum", spoilt(filled(7)), why.RForm, api.ErrEnd},
		{"8", filled(8), 0, api.OK},
		{"8 noughts", make([]byte, 8), why.RSum, api.ErrSum},
		{"8, another sum", spoilt(filled(8)), why.RSum, api.ErrSum},
		{"9", filled(9), 0, api.OK},
		{"9, another sum", spoilt(filled(9)), why.RSum, api.ErrSum},
		{"1,479", filled(1479), 0, api.OK},
		{"1,480", filled(1480), 0, api.OK},
		{"1,480, another sum", spoilt(filled(1480)), why.RSum, api.ErrSum},
		{"1,480 noughts", make([]byte, 1480), why.RSum, api.ErrSum},
		{"1,481", filled(1481), why.RForm, api.ErrRange},
		{"1,481, another sum", spoilt(filled(1481)), why.RForm, api.ErrRange},
		{"1,481 noughts", make([]byte, 1481), why.RForm, api.ErrRange},
	} {
		m, err := Parse(c.b)
		if c.want == api.OK {
			isMessage(t, c.name, m, err, messageOf(c.b))
			continue
		}
		isFault(t, c.name, m, err, c.reason, c.want)
	}
}

// P10.1: a message behind which other bytes lie in its memory, though not within its length.
func TestBytesBehindTheLength(t *testing.T) {
	b := append(raw(), noise(6, 2000)...)
	m, err := Parse(b[:11])
	isMessage(t, "what is there", m, err, sample())
	m, err = Parse(b[:10])
	isFault(t, "one byte less", m, err, why.RSum, api.ErrSum)
	m, err = Parse(b[:12])
	isFault(t, "one byte more", m, err, why.RSum, api.ErrSum)
}

// P10.1: each bit by itself makes the sum wrong.
func TestEachBitOfTheSum(t *testing.T) {
	for _, count := range []int{8, 9, 10, 11, 60, 61} {
		right := filled(count)
		for at := range right {
			for bit := range 8 {
				b := bytes.Clone(right)
				b[at] ^= 1 << bit
				m, err := Parse(b)
				isFault(t, "another bit", m, err, why.RSum, api.ErrSum)
			}
		}
	}
}

// P10.1: every number in the sum's place: right are those with which the total is 65,535.
func TestEverySum(t *testing.T) {
	for _, c := range known() {
		own := int(c.raw[2])<<8 | int(c.raw[3])
		for n := range 65536 {
			b := laid(c.raw, n)
			m, err := Parse(b)
			// With 0 the total is 65,535 already, and another 65,535 leaves it so.
			if n == own || own == 0 && n == 65535 {
				isMessage(t, c.name, m, err, c.m)
				continue
			}
			isFault(t, c.name+" with another sum", m, err, why.RSum, api.ErrSum)
		}
	}
}

// P10.1: Bytes, with bodies of each length up to beyond the most.
func TestBodies(t *testing.T) {
	counts := []int{1480, 1481, 1500, 65_527, 65_528, 65_535, 65_536, 65_536 + 100, 1 << 20}
	for count := range 1476 {
		counts = append(counts, count)
	}
	for _, count := range counts {
		m := sample()
		m.Body = noise(uint32(count), count)
		b, err := m.Bytes()
		if count > 1472 {
			isError(t, "too long a body", err, why.RForm, api.ErrRange)
			if len(b) != 0 {
				t.Errorf("a body of %d: %d bytes beside %v", count, len(b), err)
			}
			continue
		}
		if want := fixed(slices.Concat(raw()[:8], m.Body)); err != nil || !bytes.Equal(b, want) {
			t.Errorf("a body of %d: % x, %v", count, b, err)
		}
		back, err := Parse(b)
		isMessage(t, "back", back, err, m)
	}
}

// P10.1: what lies behind a body's length isn't written.
func TestBodiesEndAtTheLength(t *testing.T) {
	long := noise(3, 2000)
	for _, count := range []int{0, 1, 2, 3, 1471, 1472} {
		m := sample()
		m.Body = long[:count]
		b, err := m.Bytes()
		if want := fixed(slices.Concat(raw()[:8], bytes.Clone(long[:count]))); err != nil || !bytes.Equal(b, want) {
			t.Errorf("a body of %d: % x, %v", count, b, err)
		}
	}
}

// classOf: the class of a type, as the chapter lists them.
func classOf(kind byte) int {
	switch {
	case slices.Contains([]byte{3, 4, 11, 12}, kind):
		return 1
	case slices.Contains([]byte{0, 8}, kind):
		return 2
	}
	return 0
}

// P10.2: Class of every type; nothing else matters for it.
func TestClass(t *testing.T) {
	for kind := range 256 {
		for _, m := range []Message{{}, sample(), {Code: 3}, {Code: 255, Rest: [4]byte{3, 8, 11, 0}, Body: embedded(8, 0)}} {
			m.Type = byte(kind)
			if got := m.Class(); got != classOf(m.Type) {
				t.Errorf("the type %d with the code %d: the class %d", kind, m.Code, got)
			}
		}
	}
}

// P10.2: the chapter's example, and marks whose bytes tell their order.
func TestMark(t *testing.T) {
	for _, c := range []struct {
		rest [4]byte
		want uint16
	}{
		{[4]byte{0x12, 0x34, 0, 1}, 0x1234},
		{[4]byte{0x43, 0x54, 0x65, 0x76}, 0x4354},
		{[4]byte{}, 0},
		{[4]byte{0, 0, 255, 255}, 0},
		{[4]byte{0, 255, 0, 0}, 255},
		{[4]byte{255, 0, 0, 0}, 0xff00},
		{[4]byte{255, 255, 0, 0}, 65535},
	} {
		for kind := range 256 {
			m := Message{byte(kind), 7, c.rest, []byte{0x56, 0x78}}
			if got := m.Mark(); got != c.want {
				t.Errorf("the type %d with %v: the mark %x", kind, c.rest, got)
			}
		}
	}
}

// P10.2: Marked, and Mark behind it, of each mark: the rest of the message is as it was.
func TestMarked(t *testing.T) {
	for mark := range 65536 {
		want := sample()
		want.Rest = [4]byte{byte(mark >> 8), byte(mark), 0x65, 0x76}
		m := sample().Marked(uint16(mark))
		isMessage(t, "Marked", m, nil, want)
		if m.Mark() != uint16(mark) {
			t.Errorf("marked %x: the mark %x", mark, m.Mark())
		}
		isMessage(t, "marked as it was", m.Marked(0x4354), nil, sample())
	}
}

// P10.2: Marked of messages of each type, whatever their class.
func TestMarkedOfEachType(t *testing.T) {
	for kind := range 256 {
		for _, body := range [][]byte{nil, {}, {1}, noise(1, 1472), noise(1, 1473), noise(1, 70_000)} {
			m := Message{byte(kind), byte(^kind), [4]byte{1, 2, 3, 4}, body}
			got := m.Marked(0xabcd)
			isMessage(t, "Marked", got, nil, Message{byte(kind), byte(^kind), [4]byte{0xab, 0xcd, 3, 4}, body})
			if got.Mark() != 0xabcd || m.Mark() != 0x0102 {
				t.Errorf("the type %d: the marks %x, %x", kind, got.Mark(), m.Mark())
			}
		}
	}
}

// P10.1, P10.2: a message that is marked has its own sum.
func TestMarkedHasItsSum(t *testing.T) {
	m, err := Parse([]byte{8, 0, 0xd5, 0xc2, 0x12, 0x34, 0, 1, 9, 8, 7})
	isError(t, "Parse", err, 0, api.OK)
	b, err := m.Marked(0x1235).Bytes()
	if want := []byte{8, 0, 0xd5, 0xc1, 0x12, 0x35, 0, 1, 9, 8, 7}; err != nil || !bytes.Equal(b, want) {
		t.Errorf("% x, %v; want % x", b, err, want)
	}
}

// P10.2: Inner of errors of each type, with any code and any Rest; of others RKind with ErrKind.
func TestInnerOfEachType(t *testing.T) {
	for kind := range 256 {
		for _, code := range []byte{0, 1, 3, 13, 255} {
			m := Message{byte(kind), code, [4]byte{1, 2, 3, 4}, embedded(9, 0)}
			p, err := m.Inner()
			if classOf(byte(kind)) == CError {
				isInner(t, "an error", p, err, shown(9))
				continue
			}
			isNoInner(t, "no error", p, err, why.RKind, api.ErrKind)
		}
	}
}

// P10.2: Inner of each count of bytes that are there, of packets that are told to have more.
func TestInnerOfEachCount(t *testing.T) {
	for _, all := range []int{1500, 65_535} {
		b := embedded(1460, 2, byte(all>>8), byte(all))
		for count := range len(b) + 1 {
			for _, body := range [][]byte{b[:count], bytes.Clone(b[:count])} {
				p, err := Message{Type: TLate, Body: body}.Inner()
				if count < 28 {
					isNoInner(t, "too few", p, err, why.RForm, api.ErrEnd)
					continue
				}
				isInner(t, "enough", p, err, shown(count-20))
			}
		}
	}
}

// P10.2: Inner of each count that the packet is told to have, while more bytes are there.
func TestInnerOfEachTold(t *testing.T) {
	for told := range 70 {
		p, err := Message{Type: TGone, Code: CPort, Body: embedded(40, 2, 0, byte(told))}.Inner()
		switch {
		case told < 20:
			isNoInner(t, "less than its head", p, err, why.RForm, api.ErrForm)
		case told < 28:
			isNoInner(t, "less than eight", p, err, why.RForm, api.ErrEnd)
		default:
			isInner(t, "eight and more", p, err, shown(min(told-20, 40)))
		}
	}
}

// P10.2: a wrong sum of the head that is embedded is of no interest.
func TestInnerWithAnotherSum(t *testing.T) {
	for n := range 65536 {
		p, err := Message{Type: TGone, Body: embedded(8, 10, byte(n>>8), byte(n))}.Inner()
		isInner(t, "any sum", p, err, shown(8))
	}
}

// P10.2: Inner: each error by itself, and of several the one that the chapter names first.
func TestInnerErrors(t *testing.T) {
	for _, c := range []struct {
		name   string
		kind   byte
		body   []byte
		reason int
		want   api.Errno
	}{
		{"a query", TEcho, embedded(9, 0), why.RKind, api.ErrKind},
		{"a reply", TReply, embedded(8, 0), why.RKind, api.ErrKind},
		{"another one", 5, embedded(8, 0), why.RKind, api.ErrKind},
		{"a query without a body", TEcho, nil, why.RKind, api.ErrKind},
		{"a query, another version", TEcho, embedded(9, 0, 0x55), why.RKind, api.ErrKind},
		{"a query, seven", TEcho, embedded(7, 0), why.RKind, api.ErrKind},
		{"another one without a body", 255, nil, why.RKind, api.ErrKind},
		{"no body", TGone, nil, why.RForm, api.ErrEnd},
		{"an empty body", 4, []byte{}, why.RForm, api.ErrEnd},
		{"nineteen", TGone, embedded(0, 0)[:19], why.RForm, api.ErrEnd},
		{"nineteen, another version", TGone, embedded(0, 0, 0x55)[:19], why.RForm, api.ErrEnd},
		{"no body embedded", TLate, embedded(0, 0), why.RForm, api.ErrEnd},
		{"seven", TWrong, embedded(7, 0), why.RForm, api.ErrEnd},
		{"another version", TGone, embedded(9, 0, 0x55), why.RVersion, api.ErrVersion},
		{"another version, seven", TGone, embedded(7, 0, 0x65), why.RVersion, api.ErrVersion},
		{"another version, without a body", TGone, embedded(0, 0, 0x54), why.RVersion, api.ErrVersion},
		{"a head of sixteen", TGone, embedded(9, 0, 0x44), why.RForm, api.ErrForm},
		{"a head of sixteen, seven", TGone, embedded(7, 0, 0x44), why.RForm, api.ErrForm},
		{"a head of more than there is", TGone, embedded(9, 0, 0x48, 0, 0, 60), why.RForm, api.ErrEnd},
		{"told to have less than its head", TGone, embedded(9, 2, 0, 19), why.RForm, api.ErrForm},
		{"the same, seven", TGone, embedded(7, 2, 0, 19), why.RForm, api.ErrForm},
		{"options", TGone, embedded(20, 0, 0x46, 0, 0, 40), why.ROption, api.ErrOption},
		{"options, of its body seven", TGone, embedded(11, 0, 0x46, 0, 0, 31), why.ROption, api.ErrOption},
		{"options, of its body nothing", TGone, embedded(40, 0, 0x4f, 0, 0, 60), why.ROption, api.ErrOption},
		{"a later part", TGone, embedded(9, 6, 0, 1), why.RFrag, api.ErrFrag},
		{"more parts", TGone, embedded(9, 6, 0x20, 0), why.RFrag, api.ErrFrag},
		{"more parts, seven", TGone, embedded(7, 6, 0x60, 0), why.RFrag, api.ErrFrag},
		{"options, a later part", TGone, embedded(20, 0, 0x46, 0, 0, 40, 0, 0, 0, 9), why.ROption, api.ErrOption},
	} {
		p, err := Message{Type: c.kind, Body: c.body}.Inner()
		isNoInner(t, c.name, p, err, c.reason, c.want)
	}
}

// P10.3: Error of a packet, whose bytes were reckoned elsewhere.
func TestError(t *testing.T) {
	p := packet(9)
	p.Body = []byte{0x91, 0x92, 0x93, 0x94, 0x95, 0x96, 0x97, 0x98, 0x99}
	want := slices.Concat(rawHead(), p.Body[:8])
	m := Error(TGone, CPort, p)
	isMessage(t, "Error", m, nil, Message{TGone, CPort, [4]byte{}, want})
	b, err := m.Bytes()
	if all := slices.Concat([]byte{3, 3, 0xaa, 0xa6, 0, 0, 0, 0}, want); err != nil || !bytes.Equal(b, all) {
		t.Errorf("% x, %v; want % x", b, err, all)
	}
}

// P10.3: Error of packets with bodies of each length: the head tells all of it, of the body come the first eight bytes, or all; and Inner of it.
func TestErrorOfEachCount(t *testing.T) {
	counts := []int{1480, 1481, 65_514, 65_515}
	for count := range 100 {
		counts = append(counts, count)
	}
	for _, count := range counts {
		p := packet(count)
		m := Error(TLate, 0, p)
		isMessage(t, "Error", m, nil, Message{TLate, 0, [4]byte{}, slices.Concat(p.Head(), p.Body[:min(count, 8)])})
		if all := 20 + count; int(m.Body[2])<<8|int(m.Body[3]) != all {
			t.Errorf("a body of %d: its head tells %d", count, int(m.Body[2])<<8|int(m.Body[3]))
		}
		q, err := m.Inner()
		if count < 8 {
			isNoInner(t, "fewer than eight", q, err, why.RForm, api.ErrEnd)
			continue
		}
		p.Body = p.Body[:8]
		isInner(t, "eight and more", q, err, p)
	}
}

// P10.3: a packet that is too long for a head has none: what is left is the first eight bytes of its body.
func TestErrorWithoutHead(t *testing.T) {
	for _, count := range []int{65_516, 70_000, 1 << 20} {
		p := packet(count)
		isMessage(t, "Error", Error(TGone, CHost, p), nil, Message{TGone, CHost, [4]byte{}, p.Body[:8]})
	}
}

// P10.3: Error of each type and each code, be it an error's or not.
func TestErrorOfEachType(t *testing.T) {
	for n := range 256 {
		p := packet(9)
		want := Message{byte(n), byte(255 - n), [4]byte{}, slices.Concat(rawHead(), p.Body[:8])}
		isMessage(t, "Error", Error(byte(n), byte(255-n), p), nil, want)
	}
}

// P10.3: each field of the packet stands in the error's body, as in the packet's own bytes.
func TestErrorOfAnyPacket(t *testing.T) {
	for seed := range uint32(500) {
		n := noise(seed, 16)
		p := inet.Packet{
			Tos: n[0], Id: uint16(n[1])<<8 | uint16(n[2]), Keep: n[3]&1 == 1, Ttl: n[4], Proto: n[5],
			From: uint32(n[6])<<24 | uint32(n[7])<<16 | uint32(n[8])<<8 | uint32(n[9]),
			To:   uint32(n[10])<<24 | uint32(n[11])<<16 | uint32(n[12])<<8 | uint32(n[13]),
			Body: noise(seed, int(n[14]%24)),
		}
		b, err := p.Bytes()
		isError(t, "the packet's bytes", err, 0, api.OK)
		isMessage(t, "Error", Error(TGone, n[15], p), nil, Message{Type: TGone, Code: n[15], Body: b[:min(len(b), 28)]})
	}
}

// others: messages each of which differs from sample in one thing.
func others() []Message {
	var list []Message
	add := func(change func(m *Message)) {
		m := sample()
		change(&m)
		list = append(list, m)
	}
	for i := range 8 {
		add(func(m *Message) { m.Type ^= 1 << i })
		add(func(m *Message) { m.Code ^= 1 << i })
		for at := range 4 {
			add(func(m *Message) { m.Rest[at] ^= 1 << i })
		}
	}
	for i := range sample().Body {
		add(func(m *Message) { m.Body[i] ^= 1 })
		add(func(m *Message) { m.Body = m.Body[:i] })
	}
	add(func(m *Message) { m.Body = append(m.Body, 0) })
	add(func(m *Message) { m.Body = nil })
	add(func(m *Message) { m.Body = m.Body[1:] })
	add(func(m *Message) { m.Type, m.Code = m.Code, m.Type })
	add(func(m *Message) { m.Rest[0], m.Rest[1] = m.Rest[1], m.Rest[0] })
	return list
}

// P10.3: Same of messages that differ in one field each, and of the same ones in other memory.
func TestSame(t *testing.T) {
	if !Same(sample(), sample()) || !Same(Message{}, Message{}) {
		t.Error("the same ones differ")
	}
	for i, m := range others() {
		if Same(m, sample()) || Same(sample(), m) {
			t.Errorf("%d: %v is the same", i, m)
		}
		if !Same(m, m) {
			t.Errorf("%d: %v differs from itself", i, m)
		}
	}
}

// P10.3: bodies are held against each other up to their lengths, and a nil one is as an empty one.
func TestSameBodies(t *testing.T) {
	if !Same(Message{}, Message{Body: []byte{}}) || !Same(Message{Body: make([]byte, 0, 5)}, Message{}) {
		t.Error("nil and empty differ")
	}
	long := []byte{1, 2, 3}
	if !Same(Message{Body: long[:2]}, Message{Body: []byte{1, 2}}) || Same(Message{Body: long[:2]}, Message{Body: long}) {
		t.Error("what lies behind the length counts")
	}
	if Same(Message{}, Message{Body: []byte{0}}) || Same(Message{Body: []byte{0}}, Message{}) {
		t.Error("a nought is as nothing")
	}
	// Two messages with one sum, which isn't a field.
	if Same(Message{Body: []byte{1, 2, 3, 4}}, Message{Body: []byte{3, 4, 1, 2}}) || Same(Message{Type: 1}, Message{Rest: [4]byte{1}}) {
		t.Error("one sum is enough")
	}
	a, b := noise(1, 70_000), noise(1, 70_000)
	if !Same(Message{Body: a}, Message{Body: b}) {
		t.Error("long bodies differ")
	}
	b[69_999] ^= 1
	if Same(Message{Body: a}, Message{Body: b}) {
		t.Error("long bodies that differ at the end are the same")
	}
}

// scribble writes over all of a list's memory, its spare room too: whatever else is seen to change shares it.
func scribble(x []byte) {
	for i := range x[:cap(x)] {
		x[:cap(x)][i] ^= 0xff
	}
}

// P10.3: Parse neither changes nor keeps its bytes, nor what lies behind their length, and a message shares nothing with them.
func TestReadingIsNew(t *testing.T) {
	for _, b := range [][]byte{raw(), spoilt(raw()), filled(8), filled(9), filled(28), filled(1480), filled(1481), noise(4, 60)} {
		for _, count := range []int{0, 7, 8, 9, 11, 28, 1480, len(b)} {
			own := append(bytes.Clone(b), noise(8, 32)...)
			before := bytes.Clone(own)
			count = min(count, len(own))
			first, _ := Parse(own[:count])
			second, _ := Parse(own[:count])
			if !bytes.Equal(own, before) {
				t.Fatalf("%d bytes are changed", count)
			}
			want := second
			want.Body = bytes.Clone(second.Body)
			scribble(first.Body)
			if !bytes.Equal(own, before) {
				t.Errorf("%d bytes: the answer shares their memory", count)
			}
			isMessage(t, "two answers share memory", second, nil, want)
			scribble(own)
			isMessage(t, "a later change is seen", second, nil, want)
		}
	}
}

// P10.3: Bytes and Marked, and Class and Mark, neither change nor keep the message's body, and share nothing with it, nor with each other.
func TestWritingIsNew(t *testing.T) {
	for _, count := range []int{0, 1, 2, 3, 28, 1472, 1473, 65_536} {
		own, before := noise(9, 70_000), noise(9, 70_000)
		m := sample()
		m.Body = own[:count]
		m.Class()
		m.Mark()
		first, _ := m.Bytes()
		second, _ := m.Bytes()
		firstMarked, secondMarked := m.Marked(0x1718), m.Marked(0x1718)
		want := bytes.Clone(second)
		wantMarked := Message{0x21, 0x32, [4]byte{0x17, 0x18, 0x65, 0x76}, before[:count]}
		scribble(first)
		scribble(firstMarked.Body)
		if !bytes.Equal(own, before) {
			t.Errorf("a body of %d: it is changed, or shared", count)
		}
		scribble(own)
		if !bytes.Equal(second, want) {
			t.Errorf("a body of %d: two answers share memory, or a later change is seen", count)
		}
		isMessage(t, "two that are marked share memory, or a later change is seen", secondMarked, nil, wantMarked)
		scribble(own)
		isMessage(t, "the message", m, nil, Message{0x21, 0x32, [4]byte{0x43, 0x54, 0x65, 0x76}, before[:count]})
	}
}

// P10.3: Inner neither changes nor keeps the message's body, and the packet shares nothing with it, nor one packet with another.
func TestInnerIsNew(t *testing.T) {
	for _, b := range [][]byte{
		embedded(8, 0), embedded(9, 0), embedded(40, 2, 0, 30), embedded(1460, 2, 5, 220), embedded(7, 0), embedded(9, 0, 0x55), embedded(20, 0, 0x46, 0, 0, 40), embedded(9, 6, 0x20),
	} {
		for _, kind := range []byte{TGone, 4, TLate, TWrong, TEcho} {
			for _, count := range []int{0, 19, 20, 27, 28, len(b)} {
				own := append(bytes.Clone(b), noise(8, 32)...)
				before := bytes.Clone(own)
				count = min(count, len(own))
				m := Message{Type: kind, Body: own[:count]}
				first, _ := m.Inner()
				second, _ := m.Inner()
				if !bytes.Equal(own, before) {
					t.Fatalf("%d bytes are changed", count)
				}
				want := second
				want.Body = bytes.Clone(second.Body)
				scribble(first.Body)
				if !bytes.Equal(own, before) {
					t.Errorf("%d bytes: the answer shares their memory", count)
				}
				isInner(t, "two answers share memory", second, nil, want)
				scribble(own)
				isInner(t, "a later change is seen", second, nil, want)
			}
		}
	}
}

// P10.3: Error neither changes nor keeps the packet's body, and the message shares nothing with it, nor one message with another.
func TestErrorIsNew(t *testing.T) {
	for _, count := range []int{0, 1, 7, 8, 9, 1480, 65_515, 65_516} {
		own, before := noise(9, 70_000), noise(9, 70_000)
		p := packet(9)
		p.Body = own[:count]
		first, second := Error(TGone, CPort, p), Error(TGone, CPort, p)
		want := second
		want.Body = bytes.Clone(second.Body)
		scribble(first.Body)
		if !bytes.Equal(own, before) {
			t.Errorf("a body of %d: it is changed, or shared", count)
		}
		isMessage(t, "two answers share memory", second, nil, want)
		scribble(own)
		isMessage(t, "a later change is seen", second, nil, want)
		scribble(own)
		right := packet(9)
		right.Body = before[:count]
		isInner(t, "the packet", p, nil, right)
	}
}

// P10.3: Same changes nothing of what it is given.
func TestSameChangesNothing(t *testing.T) {
	own, other := noise(4, 40), noise(5, 40)
	a, b := sample(), sample()
	a.Body, b.Body = own[:20], other[:30]
	Same(a, b)
	Same(a, a)
	if !bytes.Equal(own, noise(4, 40)) || !bytes.Equal(other, noise(5, 40)) || len(a.Body) != 20 || len(b.Body) != 30 {
		t.Error("a body is changed")
	}
}

// rule is one of the chapters' errors, with when it comes.
type rule struct {
	reason int
	e      api.Errno
	wrong  func(b []byte) bool
}

// firstOf: the first of rules that bytes break, or none.
func firstOf(rules []rule, b []byte) (int, api.Errno) {
	for _, r := range rules {
		if r.wrong(b) {
			return r.reason, r.e
		}
	}
	return 0, api.OK
}

// rules: the errors of Parse, in the chapter's order.
func rules() []rule {
	return []rule{
		{why.RForm, api.ErrEnd, func(b []byte) bool { return len(b) < 8 }},
		{why.RForm, api.ErrRange, func(b []byte) bool { return len(b) > 1480 }},
		{why.RSum, api.ErrSum, func(b []byte) bool { return totalOf(b) != 65535 }},
	}
}

// innerRules: the errors of Inner of a message's bytes, in the chapter's order; each may lean on none of those above it being so.
func innerRules() []rule {
	head := func(b []byte) int { return int(b[8]%16) * 4 }
	all := func(b []byte) int { return int(b[10])*256 + int(b[11]) }
	return []rule{
		{why.RKind, api.ErrKind, func(b []byte) bool { return classOf(b[0]) != 1 }},
		{why.RForm, api.ErrEnd, func(b []byte) bool { return len(b) < 8+20 }},
		{why.RVersion, api.ErrVersion, func(b []byte) bool { return b[8]/16 != 4 }},
		{why.RForm, api.ErrForm, func(b []byte) bool { return head(b) < 20 }},
		{why.RForm, api.ErrEnd, func(b []byte) bool { return len(b) < 8+head(b) }},
		{why.RForm, api.ErrForm, func(b []byte) bool { return all(b) < head(b) }},
		{why.ROption, api.ErrOption, func(b []byte) bool { return head(b) > 20 }},
		{why.RFrag, api.ErrFrag, func(b []byte) bool { return b[14]&0xbf != 0 || b[15] != 0 }},
		{why.RForm, api.ErrEnd, func(b []byte) bool { return min(len(b)-8, all(b)) < 28 }},
	}
}

// innerOf: the packet of a message's bytes that embed one.
func innerOf(b []byte) inet.Packet {
	all := min(len(b)-8, int(b[10])<<8|int(b[11]))
	four := func(at int) uint32 {
		return uint32(b[at])<<24 | uint32(b[at+1])<<16 | uint32(b[at+2])<<8 | uint32(b[at+3])
	}
	return inet.Packet{
		Tos: b[9], Id: uint16(b[12])<<8 | uint16(b[13]), Keep: b[14] == 0x40, Ttl: b[16], Proto: b[17],
		From: four(20), To: four(24), Body: b[28 : 8+all],
	}
}

// isAsTold holds what Parse answers of any bytes, and what the message answers then, against what the chapter tells.
func isAsTold(t *testing.T, b []byte) {
	t.Helper()
	m, err := Parse(b)
	if reason, want := firstOf(rules(), b); want != api.OK {
		isFault(t, "Parse", m, err, reason, want)
		return
	}
	isMessage(t, "Parse", m, err, messageOf(b))
	if m.Class() != classOf(b[0]) || m.Mark() != uint16(b[4])<<8|uint16(b[5]) || !Same(m, messageOf(b)) {
		t.Errorf("% x: the class %d, the mark %x", b, m.Class(), m.Mark())
	}
	// 65,535 may stand in the place of a sum of 0, but isn't written there.
	if back, err := m.Bytes(); err != nil || !bytes.Equal(back, fixed(b)) {
		t.Errorf("% x: back % x, %v", b, back, err)
	}
	p, err := m.Inner()
	if reason, want := firstOf(innerRules(), b); want != api.OK {
		isNoInner(t, "Inner", p, err, reason, want)
		return
	}
	isInner(t, "Inner", p, err, innerOf(b))
}

// P10.1, P10.2, P1: any bytes, most of them nearly right: no call panics, and the first error is told.
func TestAnyBytes(t *testing.T) {
	kinds := []byte{0, 3, 3, 3, 4, 5, 8, 11, 11, 12}
	firsts := []byte{0x45, 0x45, 0x45, 0x45, 0x46, 0x47, 0x4f, 0x44, 0x55, 0x05}
	cuts := []byte{0, 0, 0x40, 0x40, 0x20, 0x80, 1}
	for seed := range uint32(60_000) {
		dice := noise(seed*2654435761+1, 8)
		size := int(dice[0]) % 90
		if dice[1]%16 == 0 {
			size += 1420
		}
		b := noise(seed, size)
		if size >= 28 && dice[2]%8 != 0 {
			b[0], b[8] = kinds[int(dice[3])%len(kinds)], firsts[int(dice[4])%len(firsts)]
			b[14], b[15] = cuts[int(dice[5])%len(cuts)], 0
			all := size - 8 + int(dice[6]%32) - 16
			b[10], b[11] = byte(all>>8), byte(all)
		}
		if size >= 4 && dice[7]%8 != 0 {
			b = fixed(b)
		}
		isAsTold(t, b)
	}
}

// P1: no call panics at long bytes, whatever they are.
func TestLongBytes(t *testing.T) {
	for _, count := range []int{1480, 1481, 1500, 65_535, 65_536, 1 << 22} {
		for _, b := range [][]byte{make([]byte, count), noise(1, count), slices.Repeat([]byte{255}, count)} {
			isAsTold(t, b)
			isAsTold(t, fixed(b))
			m := Message{Type: TGone, Body: b}
			if p, err := m.Inner(); err != nil && !inet.Same(p, inet.Packet{}) {
				t.Errorf("%v beside %v", p, err)
			}
		}
	}
}

// P1: no call panics, at any message, and an error comes with nothing else.
func TestAnyMessages(t *testing.T) {
	var list []Message
	for _, body := range [][]byte{nil, {}, {0}, embedded(0, 0), embedded(8, 0), noise(1, 1472), noise(1, 1473), noise(1, 65_536), noise(1, 1<<20)} {
		for _, n := range []byte{0, 1, 3, 4, 8, 11, 12, 255} {
			list = append(list, Message{n, ^n, [4]byte{n, ^n, 1, 2}, body})
		}
	}
	for _, m := range list {
		b, err := m.Bytes()
		if (err != nil) != (len(b) == 0) {
			t.Errorf("%d bytes beside %v", len(b), err)
		}
		if err == nil {
			back, err := Parse(b)
			isMessage(t, "Parse", back, err, m)
		}
		if p, err := m.Inner(); err != nil && !inet.Same(p, inet.Packet{}) {
			t.Errorf("%v beside %v", p, err)
		}
		for _, other := range list {
			want := reflect.DeepEqual(messageOf(flat(m)), messageOf(flat(other)))
			if Same(m, other) != want {
				t.Errorf("Same of %d and %d: %v", m.Type, other.Type, !want)
			}
		}
	}
}

// flat: all of a message's fields as bytes, with no sum.
func flat(m Message) []byte {
	return slices.Concat([]byte{m.Type, m.Code, 0, 0}, m.Rest[:], m.Body)
}

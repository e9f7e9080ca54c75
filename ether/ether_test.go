package ether

import (
	"bytes"
	"errors"
	"slices"
	"testing"

	"vizard/api"
	"vizard/place"
	"vizard/why"
)

// single and group are Macs that differ in what their first bytes say: one interface's, and a group's.
var (
	single = place.Mac{2, 11, 12, 13, 14, 15}
	group  = place.Mac{3, 11, 12, 13, 14, 15}
)

// noise: bytes without a pattern, the same ones each time.
func noise(seed uint32, count int) []byte {
	b := make([]byte, count)
	for i := range b {
		seed = seed*1664525 + 1013904223
		b[i] = byte(seed >> 24)
	}
	return b
}

// raw: bytes of this count, no two neighbours among the first fourteen alike, that come from a Mac with this first byte.
func raw(count int, first byte) []byte {
	b := noise(7, count)
	copy(b, []byte{0xa0, 0xa1, 0xa2, 0xa3, 0xa4, 0xa5, 0xb0, 0xb1, 0xb2, 0xb3, 0xb4, 0xb5, 0xc0, 0xc1})
	if count > 6 {
		b[6] = first
	}
	return b
}

// sample: a frame of which no field is zero.
func sample() Frame {
	return Frame{To: place.Mac{1, 2, 3, 4, 5, 6}, From: single, Kind: KArp, Body: []byte{0xaa, 0xbb, 0xcc}}
}

// isFault holds an error against the one fault that is wanted: with RForm, and of this error of api's, or nil of OK.
func isFault(t *testing.T, name string, err error, want api.Errno) {
	t.Helper()
	if want == api.OK {
		if err != nil {
			t.Errorf("%s: %v; want nil", name, err)
		}
		return
	}
	// All tells a fault from a bare error of api's, whose Reason is RForm too.
	if !slices.Equal(why.All(err), []int{why.RForm}) || why.Errno(err) != want || !errors.Is(err, want) {
		t.Errorf("%s: %v; want RForm, %d", name, err, want)
	}
}

// isZero: has a frame zero values alone?
func isZero(f Frame) bool {
	return f.To == place.Mac{} && f.From == place.Mac{} && f.Kind == 0 && len(f.Body) == 0
}

// isFrame holds a frame, field by field, against what is wanted.
func isFrame(t *testing.T, name string, f, want Frame) {
	t.Helper()
	if f.To != want.To || f.From != want.From || f.Kind != want.Kind || !bytes.Equal(f.Body, want.Body) {
		t.Errorf("%s: %v; want %v", name, f, want)
	}
}

// P5.1: the kinds have their numbers, of 16 bits.
func TestKinds(t *testing.T) {
	if KIp != uint16(0x0800) || KArp != uint16(0x0806) {
		t.Errorf("%#x, %#x", KIp, KArp)
	}
}

// frames: bytes, and the frame that has them.
func frames() []struct {
	name string
	b    []byte
	f    Frame
} {
	tail := noise(3, 1500)
	return []struct {
		name string
		b    []byte
		f    Frame
	}{
		{"the chapter's example", make([]byte, 14), Frame{}},
		{"each byte at its place", []byte{0, 1, 2, 3, 4, 5, 6, 7, 8, 9, 10, 11, 12, 13, 14, 15}, Frame{To: place.Mac{0, 1, 2, 3, 4, 5}, From: place.Mac{6, 7, 8, 9, 10, 11}, Kind: 0x0c0d, Body: []byte{14, 15}}},
		{"KIp", []byte{2, 0, 0, 0, 0, 1, 2, 0, 0, 0, 0, 9, 8, 0, 0x45}, Frame{To: place.Mac{2, 0, 0, 0, 0, 1}, From: place.Mac{2, 0, 0, 0, 0, 9}, Kind: KIp, Body: []byte{0x45}}},
		{"KArp", []byte{2, 0, 0, 0, 0, 1, 2, 0, 0, 0, 0, 9, 8, 6, 0, 1, 8, 0}, Frame{To: place.Mac{2, 0, 0, 0, 0, 1}, From: place.Mac{2, 0, 0, 0, 0, 9}, Kind: KArp, Body: []byte{0, 1, 8, 0}}},
		{"a kind below 256", []byte{2, 0, 0, 0, 0, 1, 2, 0, 0, 0, 0, 9, 0, 46}, Frame{To: place.Mac{2, 0, 0, 0, 0, 1}, From: place.Mac{2, 0, 0, 0, 0, 9}, Kind: 46}},
		{"the greatest kind", []byte{0, 0, 0, 0, 0, 0, 0, 0, 0, 0, 0, 0, 255, 255}, Frame{Kind: 65535}},
		{"a kind of the other order", []byte{0, 0, 0, 0, 0, 0, 0, 0, 0, 0, 0, 0, 0, 8}, Frame{Kind: 8}},
		{"to all", []byte{255, 255, 255, 255, 255, 255, 4, 1, 1, 1, 1, 1, 8, 6, 7}, Frame{To: place.All(), From: place.Mac{4, 1, 1, 1, 1, 1}, Kind: KArp, Body: []byte{7}}},
		{"to a group", []byte{1, 0, 0x5e, 0, 0, 1, 4, 1, 1, 1, 1, 1, 8, 0, 7}, Frame{To: place.Mac{1, 0, 0x5e, 0, 0, 1}, From: place.Mac{4, 1, 1, 1, 1, 1}, Kind: KIp, Body: []byte{7}}},
		{"from the greatest that is no group's", []byte{0, 0, 0, 0, 0, 0, 254, 255, 255, 255, 255, 255, 8, 0}, Frame{From: place.Mac{254, 255, 255, 255, 255, 255}, Kind: KIp}},
		{"from and to the same", []byte{2, 2, 2, 2, 2, 2, 2, 2, 2, 2, 2, 2, 8, 0}, Frame{To: place.Mac{2, 2, 2, 2, 2, 2}, From: place.Mac{2, 2, 2, 2, 2, 2}, Kind: KIp}},
		{"a body of noughts", make([]byte, 60), Frame{Body: make([]byte, 46)}},
		{"a body of 1,499 bytes", slices.Concat(make([]byte, 12), []byte{8, 0}, tail[:1499]), Frame{Kind: KIp, Body: tail[:1499]}},
		{"a body of 1,500 bytes", slices.Concat(make([]byte, 12), []byte{8, 0}, tail), Frame{Kind: KIp, Body: tail}},
	}
}

// P5.1: bytes have their frame, and the frame its bytes.
func TestThereAndBack(t *testing.T) {
	for _, c := range frames() {
		f, err := Parse(c.b)
		isFault(t, c.name, err, api.OK)
		isFrame(t, c.name, f, c.f)
		b, err := c.f.Bytes()
		isFault(t, c.name, err, api.OK)
		if !bytes.Equal(b, c.b) {
			t.Errorf("%s: % x; want % x", c.name, b, c.b)
		}
	}
}

// P5.1: which error comes of which count of bytes, and of a From that is a group's, and that nothing comes with it.
func TestParseErrors(t *testing.T) {
	for _, c := range []struct {
		name  string
		count int
		first byte
		want  api.Errno
	}{
		{"none", 0, 2, api.ErrEnd},
		{"one byte", 1, 2, api.ErrEnd},
		{"13 bytes", 13, 2, api.ErrEnd},
		{"14 bytes", 14, 2, api.OK},
		{"15 bytes", 15, 2, api.OK},
		{"1,513 bytes", 1513, 2, api.OK},
		{"1,514 bytes", 1514, 2, api.OK},
		{"1,515 bytes", 1515, 2, api.ErrRange},
		{"70,000 bytes", 70_000, 2, api.ErrRange},
		{"65,536 and 14 bytes", 65_550, 2, api.ErrRange},
		{"14 bytes of a group", 14, 3, api.ErrForm},
		{"1,514 bytes of a group", 1514, 3, api.ErrForm},
		{"ErrEnd ahead of ErrForm, 7 bytes", 7, 1, api.ErrEnd},
		{"ErrEnd ahead of ErrForm, 12 bytes", 12, 1, api.ErrEnd},
		{"ErrEnd ahead of ErrForm, 13 bytes", 13, 255, api.ErrEnd},
		{"ErrRange ahead of ErrForm", 1515, 1, api.ErrRange},
	} {
		f, err := Parse(raw(c.count, c.first))
		isFault(t, c.name, err, c.want)
		if isZero(f) != (c.want != api.OK) {
			t.Errorf("%s: %v beside %v", c.name, f, err)
		}
	}
}

// P5.1: nil and empty bytes are the same.
func TestParseNothing(t *testing.T) {
	for _, b := range [][]byte{nil, {}, make([]byte, 0, 20)} {
		f, err := Parse(b)
		isFault(t, "nothing", err, api.ErrEnd)
		if !isZero(f) {
			t.Errorf("%v", f)
		}
	}
}

// P5.1: of each count of bytes up to some beyond the most.
func TestParseEachCount(t *testing.T) {
	for count := range 1600 {
		want := api.OK
		if count < 14 {
			want = api.ErrEnd
		} else if count > 1514 {
			want = api.ErrRange
		}
		b := raw(count, 4)
		f, err := Parse(b)
		if why.Errno(err) != want {
			t.Fatalf("%d bytes: %v; want %d", count, err, want)
		}
		if want == api.OK && !bytes.Equal(f.Body, b[14:]) {
			t.Fatalf("%d bytes: a body of %d", count, len(f.Body))
		}
	}
}

// P5.1: just the first byte of From, and its being odd, makes it a group's; To may be whatever it is.
func TestParseOfGroups(t *testing.T) {
	for first := range 256 {
		want := api.OK
		if first%2 == 1 {
			want = api.ErrForm
		}
		b := raw(20, byte(first))
		f, err := Parse(b)
		isFault(t, "From", err, want)
		if isZero(f) != (want != api.OK) {
			t.Errorf("first byte %d of From: %v", first, f)
		}
		b = raw(20, 2)
		b[0], b[5], b[7], b[11] = byte(first), 1, 1, 1
		f, err = Parse(b)
		isFault(t, "To", err, api.OK)
		if f.To[0] != byte(first) {
			t.Errorf("first byte %d of To: %v", first, f)
		}
	}
	all := slices.Concat(make([]byte, 6), slices.Repeat([]byte{255}, 8))
	_, err := Parse(all)
	isFault(t, "from all", err, api.ErrForm)
}

// P5.1: a frame doesn't reach into what lies behind the length of its bytes.
func TestParseEndsAtTheLength(t *testing.T) {
	b := raw(2000, 2)
	_, err := Parse(b[:13])
	isFault(t, "13 of 2,000 bytes", err, api.ErrEnd)
	f, err := Parse(b[:1514])
	isFault(t, "1,514 of 2,000 bytes", err, api.OK)
	if len(f.Body) != 1500 {
		t.Errorf("a body of %d", len(f.Body))
	}
}

// P5.1: Bytes of bodies up to the most, and beyond it.
func TestBytesOfBodies(t *testing.T) {
	for _, c := range []struct {
		count int
		want  api.Errno
	}{
		{0, api.OK}, {1, api.OK}, {46, api.OK}, {1499, api.OK}, {1500, api.OK},
		{1501, api.ErrRange}, {1514, api.ErrRange}, {1515, api.ErrRange}, {65_536, api.ErrRange}, {70_000, api.ErrRange},
	} {
		f := sample()
		f.Body = noise(uint32(c.count), c.count)
		b, err := f.Bytes()
		isFault(t, "a body", err, c.want)
		if c.want != api.OK {
			if len(b) != 0 {
				t.Errorf("%d bytes of body: %d bytes beside %v", c.count, len(b), err)
			}
			continue
		}
		want := slices.Concat([]byte{1, 2, 3, 4, 5, 6, 2, 11, 12, 13, 14, 15, 8, 6}, f.Body)
		if !bytes.Equal(b, want) {
			t.Errorf("%d bytes of body: % x; want % x", c.count, b, want)
		}
	}
}

// P5.1: Bytes goes by the body's length, not by what lies behind it.
func TestBytesEndAtTheLength(t *testing.T) {
	f := Frame{Body: noise(1, 1501)[:1500]}
	if b, err := f.Bytes(); err != nil || len(b) != 1514 {
		t.Errorf("%d bytes, %v", len(b), err)
	}
}

// P5.1: the chapter names no error of Bytes but that of the body: a From that is a group's has its bytes.
func TestBytesOfAGroup(t *testing.T) {
	f := Frame{From: group}
	b, err := f.Bytes()
	isFault(t, "from a group", err, api.OK)
	if !bytes.Equal(b, []byte{0, 0, 0, 0, 0, 0, 3, 11, 12, 13, 14, 15, 0, 0}) {
		t.Errorf("% x", b)
	}
}

// P5.1: a nil body and an empty one are the same.
func TestBytesOfNoBody(t *testing.T) {
	for _, body := range [][]byte{nil, {}, make([]byte, 0, 9)} {
		b, err := Frame{Body: body}.Bytes()
		if err != nil || !bytes.Equal(b, make([]byte, 14)) {
			t.Errorf("% x, %v", b, err)
		}
	}
}

// P5.2: For.
func TestFor(t *testing.T) {
	own := place.Mac{2, 1, 1, 1, 1, 9}
	for _, c := range []struct {
		name  string
		to, m place.Mac
		want  bool
	}{
		{"the own Mac", own, own, true},
		{"another one", place.Mac{4, 5, 6, 7, 8, 9}, own, false},
		{"all", place.All(), own, true},
		{"all, asked by all", place.All(), place.All(), true},
		{"all, asked by noughts", place.All(), place.Mac{}, true},
		{"the own one, asked by all", own, place.All(), false},
		{"noughts", place.Mac{}, place.Mac{}, true},
		{"noughts, asked by another one", place.Mac{}, own, false},
		{"a group", place.Mac{1, 0, 0x5e, 0, 0, 1}, own, false},
		{"a group, asked by it", place.Mac{1, 0, 0x5e, 0, 0, 1}, place.Mac{1, 0, 0x5e, 0, 0, 1}, true},
		{"nearly all", place.Mac{255, 255, 255, 255, 255, 254}, own, false},
		{"nearly all, the first", place.Mac{254, 255, 255, 255, 255, 255}, own, false},
	} {
		f := sample()
		f.To = c.to
		if got := f.For(c.m); got != c.want {
			t.Errorf("%s: %v", c.name, got)
		}
	}
}

// P5.2: a frame goes to a Mac by To alone, all six bytes of it.
func TestForGoesByTo(t *testing.T) {
	own := place.Mac{2, 1, 1, 1, 1, 9}
	for i := range own {
		to := own
		to[i] ^= 4
		if (Frame{To: to, From: own}).For(own) {
			t.Errorf("byte %d is another one", i)
		}
		to = place.All()
		to[i] ^= 4
		if (Frame{To: to, From: place.All()}).For(own) {
			t.Errorf("byte %d isn't 255", i)
		}
	}
	if !(Frame{To: own, From: single, Kind: 9, Body: make([]byte, 2000)}).For(own) {
		t.Error("a frame with too long a body")
	}
}

// others: frames each of which differs from sample in one thing.
func others() []Frame {
	var list []Frame
	add := func(change func(f *Frame)) {
		f := sample()
		change(&f)
		list = append(list, f)
	}
	for i := range 6 {
		add(func(f *Frame) { f.To[i] ^= 0x80 })
		add(func(f *Frame) { f.From[i] ^= 0x80 })
	}
	for i := range 16 {
		add(func(f *Frame) { f.Kind ^= 1 << i })
	}
	for i := range sample().Body {
		add(func(f *Frame) { f.Body[i] ^= 1 })
		add(func(f *Frame) { f.Body = f.Body[:i] })
	}
	add(func(f *Frame) { f.Body = append(f.Body, 0) })
	add(func(f *Frame) { f.Body = nil })
	add(func(f *Frame) { f.Body = f.Body[1:] })
	add(func(f *Frame) { f.To, f.From = f.From, f.To })
	return list
}

// P5.2: Same of frames that differ in one field each, and of the same ones in other memory.
func TestSame(t *testing.T) {
	if !Same(sample(), sample()) || !Same(Frame{}, Frame{}) {
		t.Error("the same ones differ")
	}
	for i, f := range others() {
		if Same(f, sample()) || Same(sample(), f) {
			t.Errorf("%d: %v is the same", i, f)
		}
		if !Same(f, f) {
			t.Errorf("%d: %v differs from itself", i, f)
		}
	}
}

// P5.2: bodies are held against each other up to their lengths, and a nil one is as an empty one.
func TestSameBodies(t *testing.T) {
	if !Same(Frame{}, Frame{Body: []byte{}}) || !Same(Frame{Body: make([]byte, 0, 5)}, Frame{}) {
		t.Error("nil and empty differ")
	}
	long := []byte{1, 2, 3}
	if !Same(Frame{Body: long[:2]}, Frame{Body: []byte{1, 2}}) || Same(Frame{Body: long[:2]}, Frame{Body: long}) {
		t.Error("what lies behind the length counts")
	}
	if Same(Frame{}, Frame{Body: []byte{0}}) || Same(Frame{Body: []byte{0}}, Frame{}) {
		t.Error("a nought is as nothing")
	}
	a, b := noise(1, 3000), noise(1, 3000)
	if !Same(Frame{Body: a}, Frame{Body: b}) {
		t.Error("long bodies differ")
	}
	b[2999] ^= 1
	if Same(Frame{Body: a}, Frame{Body: b}) {
		t.Error("long bodies that differ at the end are the same")
	}
}

// scribble writes over all of a list's memory, its spare room too: whatever else is seen to change shares it.
func scribble(x []byte) {
	for i := range x[:cap(x)] {
		x[:cap(x)][i] ^= 0xff
	}
}

// P5.2: Parse neither changes nor keeps its bytes, and shares nothing with them.
func TestParseIsNew(t *testing.T) {
	for _, c := range []struct {
		count int
		first byte
	}{{0, 2}, {13, 2}, {14, 2}, {14, 3}, {15, 2}, {60, 2}, {60, 3}, {1514, 2}, {1515, 2}} {
		own, before := raw(1600, c.first), raw(1600, c.first)
		first, _ := Parse(own[:c.count])
		second, _ := Parse(own[:c.count])
		if !bytes.Equal(own, before) {
			t.Fatalf("%d bytes: Parse changed them", c.count)
		}
		want := second
		want.Body = bytes.Clone(second.Body)
		scribble(first.Body)
		if !bytes.Equal(own, before) {
			t.Errorf("%d bytes: the answer shares their memory", c.count)
		}
		isFrame(t, "two answers share memory", second, want)
		scribble(own)
		isFrame(t, "a later change is seen", second, want)
	}
}

// P5.2: Bytes neither changes nor keeps the frame's body, and shares nothing with it.
func TestBytesAreNew(t *testing.T) {
	for _, count := range []int{0, 1, 2, 46, 1500, 1501} {
		own, before := noise(9, 1600), noise(9, 1600)
		f := sample()
		f.Body = own[:count]
		first, _ := f.Bytes()
		second, _ := f.Bytes()
		want := bytes.Clone(second)
		scribble(first)
		if !bytes.Equal(own, before) {
			t.Errorf("a body of %d: it is changed, or shared", count)
		}
		if !bytes.Equal(second, want) {
			t.Errorf("a body of %d: two answers share memory", count)
		}
		scribble(own)
		if !bytes.Equal(second, want) {
			t.Errorf("a body of %d: a later change is seen", count)
		}
		if f.To != sample().To || f.From != sample().From || f.Kind != sample().Kind || len(f.Body) != count {
			t.Errorf("a body of %d: the frame is changed", count)
		}
	}
}

// P5.2: For and Same change nothing of what they are given.
func TestQuestionsChangeNothing(t *testing.T) {
	own, other := noise(4, 40), noise(5, 40)
	a, b := sample(), sample()
	a.Body, b.Body = own[:20], other[:30]
	a.For(single)
	a.For(a.To)
	Same(a, b)
	Same(a, a)
	if !bytes.Equal(own, noise(4, 40)) || !bytes.Equal(other, noise(5, 40)) || len(a.Body) != 20 || len(b.Body) != 30 {
		t.Error("a body is changed")
	}
}

// P5.1, P5.2: what is parsed has the bytes that it came from, whatever they are.
func TestAnyBytesThereAndBack(t *testing.T) {
	for count := range 1515 {
		b := noise(uint32(count)*31+5, count)
		f, err := Parse(b)
		if err != nil {
			if count >= 14 && b[6]%2 == 0 {
				t.Fatalf("%d bytes: %v", count, err)
			}
			continue
		}
		back, err := f.Bytes()
		if err != nil || !bytes.Equal(back, b) {
			t.Fatalf("%d bytes: % x, %v; want % x", count, back, err, b)
		}
		again, err := Parse(back)
		if err != nil || !Same(again, f) || !f.For(f.To) {
			t.Fatalf("%d bytes: %v, %v; want %v", count, again, err, f)
		}
	}
}

// P1: no call panics, and an error comes with nothing else.
func TestEveryCallEnds(t *testing.T) {
	macs := []place.Mac{{}, single, group, place.All()}
	bodies := [][]byte{nil, {}, {0}, noise(1, 1500), noise(1, 1501), noise(1, 1<<20)}
	var list []Frame
	for _, to := range macs {
		for _, from := range macs {
			for _, body := range bodies {
				list = append(list, Frame{to, from, 0, body}, Frame{to, from, 65535, body})
			}
		}
	}
	for _, f := range list {
		b, err := f.Bytes()
		if (err != nil) != (len(b) == 0) {
			t.Errorf("%d bytes beside %v", len(b), err)
		}
		g, err := Parse(b)
		if err != nil && !isZero(g) {
			t.Errorf("%v beside %v", g, err)
		}
		for _, m := range macs {
			if f.For(m) != (f.To == m || f.To == place.All()) {
				t.Errorf("%v for %v", f.To, m)
			}
		}
		if !Same(f, f) || Same(f, list[0]) != Same(list[0], f) {
			t.Errorf("Same of %v", f.To)
		}
	}
	for _, b := range bodies {
		if f, err := Parse(b); err != nil && !isZero(f) {
			t.Errorf("%v beside %v", f, err)
		}
	}
}

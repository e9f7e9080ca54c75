package pool

import (
	"bytes"
	"math"
	"slices"
	"testing"

	"vizard/api"
)

// noise: bytes without a pattern, the same ones each time.
func noise(seed uint32, count int) []byte {
	b := make([]byte, count)
	for i := range b {
		seed = seed*1664525 + 1013904223
		b[i] = byte(seed >> 24)
	}
	return b
}

// model is what a pool should have: of each buffer that is owned its owner and its bytes, by its number.
type model struct {
	many  int
	owner map[int]int
	text  map[int]string
}

// modelOf: what a new pool of so many buffers should have.
func modelOf(many int) model {
	return model{many, map[int]int{}, map[int]string{}}
}

// clone: the same, by itself.
func (m model) clone() model {
	c := modelOf(m.many)
	for buffer, owner := range m.owner {
		c.owner[buffer], c.text[buffer] = owner, m.text[buffer]
	}
	return c
}

// take: what Take should answer, and what is there behind it.
func (m model) take(owner int, b []byte) (int, api.Errno) {
	if owner < 1 || owner > 255 || len(b) > 1514 {
		return -1, api.ErrRange
	}
	for buffer := 0; buffer < m.many; buffer++ {
		if m.owner[buffer] == 0 {
			m.owner[buffer], m.text[buffer] = owner, string(b)
			return buffer, api.OK
		}
	}
	return -1, api.ErrFull
}

// hand: what Hand should answer, and what is there behind it.
func (m model) hand(buffer, from, to int) api.Errno {
	if from < 1 || from > 255 || to < 1 || to > 255 {
		return api.ErrRange
	}
	if buffer < 0 || buffer >= m.many {
		return api.ErrNone
	}
	if m.owner[buffer] != from {
		return api.ErrState
	}
	m.owner[buffer] = to
	return api.OK
}

// free: what Free should answer, and what is there behind it.
func (m model) free(buffer, owner int) api.Errno {
	e := m.hand(buffer, owner, owner)
	if e == api.OK {
		delete(m.owner, buffer)
		delete(m.text, buffer)
	}
	return e
}

// pooled: a pool of so many buffers.
func pooled(t *testing.T, many int) *Pool {
	t.Helper()
	p, e := New(many)
	if e != api.OK || p == nil {
		t.Fatalf("New(%d): %v, %d", many, p, e)
	}
	return p
}

// filled: a pool of so many buffers, and what it has: buffer 0 is owner 1's, buffer 1 owner 2's, and so on up to owner 5, and then again from owner 1 on.
func filled(t *testing.T, many int) (*Pool, model) {
	t.Helper()
	p, m := pooled(t, many), modelOf(many)
	for buffer := range many {
		take(t, "filled", p, m, buffer%5+1, noise(uint32(buffer), buffer%7))
	}
	return p, m
}

// take does it in the pool and in what it should have, and holds the answers against each other.
func take(t *testing.T, name string, p *Pool, m model, owner int, b []byte) int {
	t.Helper()
	buffer, e := p.Take(owner, b)
	if want, wantE := m.take(owner, b); buffer != want || e != wantE {
		t.Fatalf("%s: Take(%d, %d bytes): %d, %d; want %d, %d", name, owner, len(b), buffer, e, want, wantE)
	}
	return buffer
}

// hand is as take.
func hand(t *testing.T, name string, p *Pool, m model, buffer, from, to int) {
	t.Helper()
	e := p.Hand(buffer, from, to)
	if want := m.hand(buffer, from, to); e != want {
		t.Fatalf("%s: Hand(%d, %d, %d): %d; want %d", name, buffer, from, to, e, want)
	}
}

// free is as take.
func free(t *testing.T, name string, p *Pool, m model, buffer, owner int) {
	t.Helper()
	e := p.Free(buffer, owner)
	if want := m.free(buffer, owner); e != want {
		t.Fatalf("%s: Free(%d, %d): %d; want %d", name, buffer, owner, e, want)
	}
}

// isPool holds all that a pool tells against what it should have.
func isPool(t *testing.T, name string, p *Pool, m model) {
	t.Helper()
	if left := p.Left(); left != m.many-len(m.owner) {
		t.Errorf("%s: %d left; want %d", name, left, m.many-len(m.owner))
	}
	if many := p.Many(); many != m.many {
		t.Errorf("%s: %d in all; want %d", name, many, m.many)
	}
	held := map[int][]int{}
	for buffer := range m.many {
		want := m.owner[buffer]
		if owner := p.Owner(buffer); owner != want {
			t.Errorf("%s: buffer %d is %d's; want %d", name, buffer, owner, want)
		}
		b, ok := p.Bytes(buffer)
		if ok != (want != 0) || string(b) != m.text[buffer] {
			t.Errorf("%s: buffer %d: % x, %v; want % x", name, buffer, b, ok, m.text[buffer])
		}
		if want != 0 {
			held[want] = append(held[want], buffer)
		}
	}
	for owner := -1; owner < 258; owner++ {
		if got := p.Held(owner); !slices.Equal(got, held[owner]) {
			t.Errorf("%s: owner %d holds %v; want %v", name, owner, got, held[owner])
		}
	}
	for _, buffer := range []int{-1, m.many, m.many + 1} {
		if owner := p.Owner(buffer); owner != -1 {
			t.Errorf("%s: buffer %d, of which there is none, is %d's", name, buffer, owner)
		}
		if b, ok := p.Bytes(buffer); ok || len(b) != 0 {
			t.Errorf("%s: buffer %d, of which there is none, has % x, %v", name, buffer, b, ok)
		}
	}
}

// farOff: numbers that are no buffer's and no owner's; some would be, if a part of their bits were left out.
func farOff() []int {
	return []int{
		math.MinInt, math.MinInt + 1, math.MinInt32, -1 << 32, -65_536, -1024, -256, -255, -2, -1,
		1024, 1025, 65_536, 65_537, 1 << 31, 1 << 32, 1<<32 + 1, 1<<62 + 1, math.MaxInt - 1, math.MaxInt,
	}
}

// scribble changes all bytes of an answer, also those of its spare room.
func scribble(b []byte) {
	b = b[:cap(b)]
	for i := range b {
		b[i] ^= 0x5a
	}
}

// The chapter's example.
func TestExample(t *testing.T) {
	p := pooled(t, 2)
	for i, owner := range []int{1, 2} {
		if buffer, e := p.Take(owner, nil); buffer != i || e != api.OK {
			t.Error(owner, buffer, e)
		}
	}
	if buffer, e := p.Take(1, nil); buffer != -1 || e != api.ErrFull {
		t.Error(buffer, e)
	}
	if e := p.Free(0, 1); e != api.OK {
		t.Error(e)
	}
	if buffer, e := p.Take(2, nil); buffer != 0 || e != api.OK {
		t.Error(buffer, e)
	}
}

// P11.1: New of every count around the edges, and of counts far off.
func TestNew(t *testing.T) {
	counts := farOff()
	for many := -3; many < 1030; many++ {
		counts = append(counts, many)
	}
	for _, many := range counts {
		p, e := New(many)
		if many < 1 || many > 1024 {
			if p != nil || e != api.ErrRange {
				t.Errorf("New(%d): %v, %d", many, p, e)
			}
			continue
		}
		if p == nil || e != api.OK || p.Many() != many || p.Left() != many {
			t.Fatalf("New(%d): %v, %d", many, p, e)
		}
	}
	for _, many := range []int{1, 2, 3, 1023, 1024} {
		isPool(t, "new", pooled(t, many), modelOf(many))
	}
}

// P11.1: pools of each size around the edges are filled from buffer 0 on, and then are full.
func TestFilling(t *testing.T) {
	for _, many := range []int{1, 2, 3, 10, 1023, 1024} {
		p, m := pooled(t, many), modelOf(many)
		for buffer := range many {
			if got := take(t, "filling", p, m, buffer%255+1, noise(uint32(many+buffer), buffer%50)); got != buffer {
				t.Fatalf("of %d: buffer %d; want %d", many, got, buffer)
			}
		}
		isPool(t, "full", p, m)
		for _, owner := range []int{1, 2, 255} {
			if buffer, e := p.Take(owner, []byte{1}); buffer != -1 || e != api.ErrFull {
				t.Errorf("of %d, which is full: %d, %d", many, buffer, e)
			}
		}
		isPool(t, "still full", p, m)
	}
}

// P11.1: Take by every owner there is, and by those just beside them.
func TestTakeByEachOwner(t *testing.T) {
	p, m := pooled(t, 300), modelOf(300)
	for owner := -3; owner < 260; owner++ {
		buffer, e := p.Take(owner, []byte{byte(owner)})
		if owner < 1 || owner > 255 {
			if buffer != -1 || e != api.ErrRange {
				t.Errorf("by %d: %d, %d", owner, buffer, e)
			}
			continue
		}
		if buffer != owner-1 || e != api.OK {
			t.Errorf("by %d: %d, %d", owner, buffer, e)
		}
		m.owner[buffer], m.text[buffer] = owner, string([]byte{byte(owner)})
	}
	isPool(t, "each owner", p, m)
}

// P11.1: Take with so many bytes as a buffer may have, or with more.
func TestTakeOfEachLength(t *testing.T) {
	counts := []int{1600, 3000, 65_535, 65_536, 65_537, 1 << 20}
	for count := range 1520 {
		counts = append(counts, count)
	}
	p := pooled(t, 1)
	for _, count := range counts {
		b := noise(uint32(count), count)
		buffer, e := p.Take(7, b)
		if count > 1514 {
			if buffer != -1 || e != api.ErrRange || p.Left() != 1 || p.Owner(0) != 0 {
				t.Errorf("%d bytes: %d, %d", count, buffer, e)
			}
			continue
		}
		if got, ok := p.Bytes(0); buffer != 0 || e != api.OK || !ok || !bytes.Equal(got, b) {
			t.Errorf("%d bytes: %d, %d, %v", count, buffer, e, ok)
		}
		if e := p.Free(0, 7); e != api.OK {
			t.Fatal(e)
		}
	}
}

// P11.1: a buffer has the bytes up to the length of what was handed in, and none of those behind it.
func TestBytesBehindTheLength(t *testing.T) {
	long := noise(4, 3000)
	before := bytes.Clone(long)
	p, m := pooled(t, 9), modelOf(9)
	for _, count := range []int{0, 1, 2, 1513, 1514, 1515} {
		take(t, "with more behind it", p, m, 3, long[:count])
	}
	isPool(t, "with more behind it", p, m)
	if !bytes.Equal(long, before) {
		t.Error("what was handed in is changed")
	}
}

// P11.1: the free buffer with the least number is taken, whichever of them are free.
func TestTakeTheLeast(t *testing.T) {
	const many = 7
	for free := range 1 << many {
		p, m := filled(t, many)
		var want []int
		// From the last one on, so that the order in which they were freed isn't that in which they are taken.
		for buffer := many - 1; buffer >= 0; buffer-- {
			if free>>buffer&1 == 1 {
				if e := p.Free(buffer, m.owner[buffer]); e != api.OK {
					t.Fatal(e)
				}
				want = append([]int{buffer}, want...)
			}
		}
		for _, buffer := range want {
			if got, e := p.Take(9, nil); got != buffer || e != api.OK {
				t.Errorf("free %b: %d, %d; want %d", free, got, e, buffer)
			}
		}
		if got, e := p.Take(9, nil); got != -1 || e != api.ErrFull {
			t.Errorf("free %b: %d, %d behind the last one", free, got, e)
		}
	}
}

// P11.1: one in the midst of the greatest pool is freed, and taken again.
func TestTakeInTheMidst(t *testing.T) {
	p, m := filled(t, 1024)
	for _, buffer := range []int{512, 0, 1023, 1, 1022} {
		free(t, "in the midst", p, m, buffer, buffer%5+1)
	}
	isPool(t, "freed", p, m)
	for _, want := range []int{0, 1, 512, 1022, 1023} {
		if got := take(t, "in the midst", p, m, 200, []byte{1}); got != want {
			t.Errorf("%d; want %d", got, want)
		}
	}
	isPool(t, "taken again", p, m)
}

// P11.1: what is wrong with a Take, by itself and together; nothing changes.
func TestTakeErrors(t *testing.T) {
	some, most, long := []byte{1, 2}, noise(5, 1514), noise(6, 1515)
	empty, emptyModel := pooled(t, 3), modelOf(3)
	full, fullModel := filled(t, 3)
	for _, c := range []struct {
		name  string
		owner int
		b     []byte
		empty api.Errno
		full  api.Errno
	}{
		{"no owner", 0, some, api.ErrRange, api.ErrRange},
		{"no owner, below", -1, some, api.ErrRange, api.ErrRange},
		{"no owner, above", 256, some, api.ErrRange, api.ErrRange},
		{"no owner, an owner's lowest bits", 257, some, api.ErrRange, api.ErrRange},
		{"no owner, far below", math.MinInt, some, api.ErrRange, api.ErrRange},
		{"no owner, far above", math.MaxInt, some, api.ErrRange, api.ErrRange},
		{"no owner, no bytes", 0, nil, api.ErrRange, api.ErrRange},
		{"too many bytes", 1, long, api.ErrRange, api.ErrRange},
		{"too many bytes, the last owner", 255, long, api.ErrRange, api.ErrRange},
		{"no owner, too many bytes", 0, long, api.ErrRange, api.ErrRange},
		{"the first owner", 1, some, api.OK, api.ErrFull},
		{"the last owner", 255, some, api.OK, api.ErrFull},
		{"the most bytes", 1, most, api.OK, api.ErrFull},
		{"no bytes", 1, nil, api.OK, api.ErrFull},
		{"no bytes, a list", 1, []byte{}, api.OK, api.ErrFull},
	} {
		p, m := empty.Clone(), emptyModel.clone()
		want := -1
		if c.empty == api.OK {
			want = 0
			m.owner[0], m.text[0] = c.owner, string(c.b)
		}
		if buffer, e := p.Take(c.owner, c.b); buffer != want || e != c.empty {
			t.Errorf("%s: %d, %d; want %d, %d", c.name, buffer, e, want, c.empty)
		}
		isPool(t, c.name, p, m)
		if buffer, e := full.Take(c.owner, c.b); buffer != -1 || e != c.full {
			t.Errorf("%s, full: %d, %d; want %d", c.name, buffer, e, c.full)
		}
		isPool(t, c.name+", full", full, fullModel)
	}
}

// P11.2: a buffer goes from hand to hand with its bytes, and may be handed to its own owner.
func TestHand(t *testing.T) {
	p, m := filled(t, 4)
	for _, c := range [][3]int{{0, 1, 2}, {0, 2, 255}, {0, 255, 255}, {0, 255, 1}, {3, 4, 4}, {3, 4, 1}, {2, 3, 254}, {1, 2, 1}} {
		if e := p.Hand(c[0], c[1], c[2]); e != api.OK {
			t.Errorf("Hand(%d, %d, %d): %d", c[0], c[1], c[2], e)
		}
		m.owner[c[0]] = c[2]
		isPool(t, "handed", p, m)
	}
}

// P11.2: Hand from and to every owner there is, and those just beside them.
func TestHandToEachOwner(t *testing.T) {
	p, m := pooled(t, 1), modelOf(1)
	take(t, "one", p, m, 1, []byte{8, 9})
	for owner := -3; owner < 260; owner++ {
		isOwner := owner >= 1 && owner <= 255
		want, back := api.ErrRange, api.ErrRange
		if isOwner {
			want, back = api.OK, api.ErrState
		}
		if owner == 1 {
			back = api.OK
		}
		if e := p.Hand(0, owner, 1); e != back {
			t.Errorf("from %d, whose it isn't: %d; want %d", owner, e, back)
		}
		if e := p.Hand(0, 1, owner); e != want {
			t.Errorf("to %d: %d; want %d", owner, e, want)
		}
		if isOwner {
			hand(t, "and back", p, m.handed(owner), 0, owner, 1)
		}
		if b, ok := p.Bytes(0); p.Owner(0) != 1 || !ok || !bytes.Equal(b, []byte{8, 9}) {
			t.Errorf("%d: buffer 0 is %d's, with % x", owner, p.Owner(0), b)
		}
	}
}

// handed: the same, but that buffer 0 is another owner's.
func (m model) handed(owner int) model {
	c := m.clone()
	c.owner[0] = owner
	return c
}

// mixed: a pool of four buffers, and what it has: 0 is owner 1's, 1 is free, 2 is owner 3's, and 3 is owner 255's.
func mixed(t *testing.T) (*Pool, model) {
	t.Helper()
	p, m := pooled(t, 4), modelOf(4)
	for _, owner := range []int{1, 2, 3, 255} {
		take(t, "mixed", p, m, owner, noise(uint32(owner), owner%5+1))
	}
	free(t, "mixed", p, m, 1, 2)
	isPool(t, "mixed", p, m)
	return p, m
}

// P11.2: what is wrong with a Hand, by itself and together: the owners' numbers, there is no such buffer, it isn't that owner's; nothing changes.
func TestHandErrors(t *testing.T) {
	p, m := mixed(t)
	for _, c := range []struct {
		name             string
		buffer, from, to int
		want             api.Errno
	}{
		{"from no owner", 0, 0, 1, api.ErrRange},
		{"from no owner, below", 0, -1, 1, api.ErrRange},
		{"from no owner, above", 0, 256, 1, api.ErrRange},
		{"from no owner, the owner's lowest bits", 0, 257, 1, api.ErrRange},
		{"to no owner", 0, 1, 0, api.ErrRange},
		{"to no owner, below", 0, 1, -1, api.ErrRange},
		{"to no owner, above", 0, 1, 256, api.ErrRange},
		{"to no owner, an owner's lowest bits", 0, 1, 257, api.ErrRange},
		{"from and to no owner", 0, 0, 0, api.ErrRange},
		{"none such", 4, 1, 2, api.ErrNone},
		{"none such, below", -1, 1, 2, api.ErrNone},
		{"none such, far off", math.MaxInt, 1, 2, api.ErrNone},
		{"none such, a buffer's lowest bits", 1 << 32, 1, 2, api.ErrNone},
		{"another's", 0, 2, 1, api.ErrState},
		{"another's, to itself", 0, 2, 2, api.ErrState},
		{"another's, to its owner", 2, 1, 3, api.ErrState},
		{"another's, the last buffer", 3, 1, 2, api.ErrState},
		{"free", 1, 1, 2, api.ErrState},
		{"free, from whom it was", 1, 2, 2, api.ErrState},
		{"from no owner, none such", 4, 0, 1, api.ErrRange},
		{"to no owner, none such", 4, 1, 0, api.ErrRange},
		{"to no owner, none such, below", -1, 1, 256, api.ErrRange},
		{"from no owner, free", 1, 0, 1, api.ErrRange},
		{"to no owner, free", 1, 1, 0, api.ErrRange},
		{"from and to no owner, free", 1, 0, 0, api.ErrRange},
		{"to no owner, another's", 0, 2, 0, api.ErrRange},
		{"to no owner, another's, above", 0, 2, 256, api.ErrRange},
	} {
		if e := p.Hand(c.buffer, c.from, c.to); e != c.want {
			t.Errorf("%s: %d; want %d", c.name, e, c.want)
		}
		isPool(t, c.name, p, m)
	}
}

// P11.2: what is wrong with a Free, by itself and together; nothing changes.
func TestFreeErrors(t *testing.T) {
	p, m := mixed(t)
	for _, c := range []struct {
		name          string
		buffer, owner int
		want          api.Errno
	}{
		{"of no owner", 0, 0, api.ErrRange},
		{"of no owner, below", 0, -1, api.ErrRange},
		{"of no owner, above", 0, 256, api.ErrRange},
		{"of no owner, the owner's lowest bits", 0, 257, api.ErrRange},
		{"none such", 4, 1, api.ErrNone},
		{"none such, below", -1, 1, api.ErrNone},
		{"none such, far off", math.MinInt, 1, api.ErrNone},
		{"none such, a buffer's lowest bits", 1 << 32, 1, api.ErrNone},
		{"another's", 0, 2, api.ErrState},
		{"another's, the last buffer", 3, 254, api.ErrState},
		{"free", 1, 1, api.ErrState},
		{"free, of whom it was", 1, 2, api.ErrState},
		{"of no owner, none such", 4, 0, api.ErrRange},
		{"of no owner, none such, below", -1, 256, api.ErrRange},
		{"of no owner, free", 1, 0, api.ErrRange},
		{"of no owner, another's", 2, 0, api.ErrRange},
	} {
		if e := p.Free(c.buffer, c.owner); e != c.want {
			t.Errorf("%s: %d; want %d", c.name, e, c.want)
		}
		isPool(t, c.name, p, m)
	}
}

// P11.2: a buffer is free behind a Free, and no other one; a second Free finds it so.
func TestFree(t *testing.T) {
	for buffer := range 4 {
		for _, to := range []int{0, 9} {
			p, m := filled(t, 4)
			owner := buffer + 1
			if to != 0 {
				hand(t, "handed", p, m, buffer, owner, to)
				free(t, "of whom it was", p, m, buffer, owner)
				owner = to
			}
			if e := p.Free(buffer, owner); e != api.OK {
				t.Errorf("Free(%d, %d): %d", buffer, owner, e)
			}
			delete(m.owner, buffer)
			delete(m.text, buffer)
			isPool(t, "freed", p, m)
			if e := p.Free(buffer, owner); e != api.ErrState {
				t.Errorf("Free(%d, %d) again: %d", buffer, owner, e)
			}
			isPool(t, "freed again", p, m)
		}
	}
}

// P11.2: Owner and Bytes of buffers that are owned, that are free, and of none such.
func TestOwnerAndBytes(t *testing.T) {
	p, _ := mixed(t)
	for _, c := range []struct{ buffer, owner, count int }{
		{0, 1, 2}, {1, 0, 0}, {2, 3, 4}, {3, 255, 1}, {4, -1, 0}, {-1, -1, 0},
	} {
		if owner := p.Owner(c.buffer); owner != c.owner {
			t.Errorf("buffer %d is %d's; want %d", c.buffer, owner, c.owner)
		}
		b, ok := p.Bytes(c.buffer)
		if ok != (c.owner > 0) || !bytes.Equal(b, noise(uint32(c.owner), c.count)) {
			t.Errorf("buffer %d: % x, %v", c.buffer, b, ok)
		}
	}
	for _, buffer := range farOff() {
		if owner := p.Owner(buffer); owner != -1 {
			t.Errorf("buffer %d is %d's", buffer, owner)
		}
		if b, ok := p.Bytes(buffer); ok || len(b) != 0 {
			t.Errorf("buffer %d: % x, %v", buffer, b, ok)
		}
	}
}

// P11.2: a buffer without bytes is owned all the same, and doesn't have those that were there before it.
func TestNoBytes(t *testing.T) {
	p, m := pooled(t, 1), modelOf(1)
	take(t, "bytes", p, m, 1, []byte{1, 2, 3})
	free(t, "bytes", p, m, 0, 1)
	for _, b := range [][]byte{nil, {}, make([]byte, 0, 9)} {
		take(t, "no bytes", p, m, 2, b)
		if got, ok := p.Bytes(0); !ok || len(got) != 0 || p.Owner(0) != 2 {
			t.Errorf("% x, %v", got, ok)
		}
		free(t, "no bytes", p, m, 0, 2)
		isPool(t, "free again", p, m)
	}
}

// P11.3: Left, Many and Held, with the buffers that come and go.
func TestHeld(t *testing.T) {
	p := pooled(t, 6)
	is := func(name string, left int, one, two []int) {
		t.Helper()
		if p.Left() != left || p.Many() != 6 {
			t.Errorf("%s: %d left of %d; want %d", name, p.Left(), p.Many(), left)
		}
		if a, b := p.Held(1), p.Held(255); !slices.Equal(a, one) || !slices.Equal(b, two) {
			t.Errorf("%s: %v, %v; want %v, %v", name, a, b, one, two)
		}
		for _, owner := range append(farOff(), 0, 2, 254, 256, 257) {
			if all := p.Held(owner); len(all) != 0 {
				t.Errorf("%s: owner %d holds %v", name, owner, all)
			}
		}
	}
	is("new", 6, nil, nil)
	for _, owner := range []int{1, 255, 1, 1, 255, 1} {
		p.Take(owner, nil)
	}
	is("full", 0, []int{0, 2, 3, 5}, []int{1, 4})
	p.Hand(4, 255, 1)
	is("handed", 0, []int{0, 2, 3, 4, 5}, []int{1})
	p.Hand(0, 1, 255)
	p.Hand(5, 1, 255)
	is("handed to the other one", 0, []int{2, 3, 4}, []int{0, 1, 5})
	p.Free(3, 1)
	p.Free(1, 255)
	is("freed", 2, []int{2, 4}, []int{0, 5})
	p.Take(1, nil)
	is("taken", 1, []int{1, 2, 4}, []int{0, 5})
	for _, buffer := range []int{4, 2, 1, 0, 5} {
		p.Free(buffer, p.Owner(buffer))
	}
	is("all freed", 6, nil, nil)
}

// P11.3: each owner holds what is its own, in the greatest pool.
func TestHeldByEachOwner(t *testing.T) {
	p, m := pooled(t, 1024), modelOf(1024)
	for buffer := range 1024 {
		take(t, "each owner", p, m, buffer*7%255+1, nil)
	}
	isPool(t, "each owner", p, m)
}

// P11.3: a pool and its clone are the same, and go on each by itself.
func TestClone(t *testing.T) {
	for _, c := range []struct {
		name string
		tell func(p *Pool, m model)
	}{
		{"Take", func(p *Pool, m model) { take(t, "Take", p, m, 7, []byte{1, 2, 3}) }},
		{"Hand", func(p *Pool, m model) { hand(t, "Hand", p, m, 0, 1, 9) }},
		{"Free", func(p *Pool, m model) { free(t, "Free", p, m, 3, 255) }},
		{"another one in its stead", func(p *Pool, m model) {
			free(t, "Free", p, m, 0, 1)
			take(t, "Take", p, m, 1, []byte{9, 9})
		}},
	} {
		p, m := mixed(t)
		clone := p.Clone()
		isPool(t, "a clone", clone, m)
		before := m.clone()
		c.tell(p, m)
		isPool(t, c.name+" in the pool", p, m)
		isPool(t, c.name+" in the pool, its clone", clone, before)
		again, againModel := clone.Clone(), before.clone()
		c.tell(clone, before)
		isPool(t, c.name+" in the clone", clone, before)
		isPool(t, c.name+" in the clone, the pool", p, m)
		isPool(t, c.name+" in the clone, its own clone", again, againModel)
	}
}

// P11.3: clones of pools that are new, that are full, and of one buffer.
func TestCloneAtTheEdges(t *testing.T) {
	for _, many := range []int{1, 2, 1024} {
		p := pooled(t, many)
		if clone := p.Clone(); clone == p {
			t.Error("the same pool")
		}
		isPool(t, "of a new one", p.Clone(), modelOf(many))
		p, m := filled(t, many)
		clone := p.Clone()
		isPool(t, "of a full one", clone, m)
		for buffer := range many {
			if e := p.Free(buffer, buffer%5+1); e != api.OK {
				t.Fatal(e)
			}
		}
		isPool(t, "of a full one that was emptied", clone, m)
		isPool(t, "that was emptied", p, modelOf(many))
	}
}

// P11.3: what is handed in isn't kept: a later change of it changes nothing.
func TestNothingIsKept(t *testing.T) {
	p, m := pooled(t, 3), modelOf(3)
	for _, count := range []int{1, 40, 1514} {
		long := noise(uint32(count), 2000)
		take(t, "kept", p, m, 1, long[:count])
		scribble(long)
		isPool(t, "a change of what was handed in", p, m)
	}
}

// P11.3: what is answered is new memory: a change of it changes neither the pool, nor its clone, nor another answer.
func TestAnswersAreNew(t *testing.T) {
	p, m := filled(t, 20)
	clone := p.Clone()
	for _, q := range []*Pool{p, clone} {
		for buffer := range 20 {
			kept, _ := q.Bytes(buffer)
			b, _ := q.Bytes(buffer)
			scribble(b)
			if string(kept) != m.text[buffer] {
				t.Errorf("buffer %d: an answer is changed with another one", buffer)
			}
		}
		for owner := range 6 {
			kept := q.Held(owner)
			want := slices.Clone(kept)
			all := q.Held(owner)
			all = all[:cap(all)]
			for i := range all {
				all[i] = 77
			}
			if !slices.Equal(kept, want) {
				t.Errorf("owner %d: an answer is changed with another one", owner)
			}
		}
		isPool(t, "the pool", p, m)
		isPool(t, "its clone", clone, m)
	}
}

// P11.3: an answer stays as it is, whatever becomes of the pool.
func TestAnswersStay(t *testing.T) {
	p, m := filled(t, 6)
	b, _ := p.Bytes(2)
	all := p.Held(1)
	free(t, "two", p, m, 2, 3)
	free(t, "nought", p, m, 0, 1)
	take(t, "nought", p, m, 9, []byte{5, 5, 5, 5})
	take(t, "two", p, m, 9, []byte{5, 5, 5, 5})
	if !bytes.Equal(b, noise(2, 2)) || !slices.Equal(all, []int{0, 5}) {
		t.Errorf("% x, %v", b, all)
	}
}

// script tells pools of so many buffers what numbers say, and holds them against what they should have, and their clones, too.
func script(t *testing.T, seed uint32, many, steps, every int) {
	p, m := pooled(t, many), modelOf(many)
	clone, cloned := p.Clone(), m.clone()
	b := noise(seed, 4*steps)
	for i := range steps {
		n := b[4*i : 4*i+4]
		buffer, owner, other := int(n[1])%(many+2)-1, int(n[2])%7-1, int(n[3])%7-1
		switch n[0] % 8 {
		case 0, 1, 2:
			take(t, "script", p, m, owner, b[4*i:4*i+int(n[3])%4])
		case 3, 4:
			hand(t, "script", p, m, buffer, owner, other)
		case 5, 6:
			free(t, "script", p, m, buffer, owner)
		case 7:
			if n[1] < 64 {
				clone, cloned = p.Clone(), m.clone()
			} else {
				// From here on the clone is told what comes.
				p, m, clone, cloned = clone, cloned, p, m
			}
		}
		if i%every == 0 {
			isPool(t, "script", p, m)
			isPool(t, "script's clone", clone, cloned)
		}
	}
	isPool(t, "script", p, m)
	isPool(t, "script's clone", clone, cloned)
}

// P11.1, P11.2, P11.3: rows of calls of every kind, with what the pool has behind each of them.
func TestScripts(t *testing.T) {
	for seed := range uint32(60) {
		script(t, seed, int(seed)%6+1, 300, 1)
	}
	script(t, 1000, 40, 5000, 50)
	script(t, 1001, 200, 5000, 50)
	script(t, 1002, 1024, 9000, 1000)
}

// P1: every call ends and none panics, at all arguments, and what is far off changes nothing.
func TestAnyArguments(t *testing.T) {
	p, m := mixed(t)
	numbers := append(farOff(), 0, 1, 2, 3, 4, 5, 254, 255, 256, 257, 1023)
	lists := [][]byte{nil, {}, {1}, noise(1, 1514), noise(2, 1515), make([]byte, 1<<20)}
	for _, many := range numbers {
		if p, e := New(many); (p == nil) != (e == api.ErrRange) || p != nil && e != api.OK {
			t.Errorf("New(%d): %v, %d", many, p, e)
		}
	}
	for _, a := range numbers {
		for _, b := range lists {
			c, d := p.Clone(), m.clone()
			take(t, "any", c, d, a, b)
		}
		for _, b := range numbers {
			c, d := p.Clone(), m.clone()
			free(t, "any", c, d, a, b)
			for _, to := range numbers {
				c, d := p.Clone(), m.clone()
				hand(t, "any", c, d, a, b, to)
			}
		}
		p.Owner(a)
		p.Bytes(a)
		p.Held(a)
	}
	isPool(t, "any", p, m)
}

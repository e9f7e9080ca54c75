package ring

import (
	"bytes"
	"math"
	"slices"
	"testing"

	"vizard/api"
	"vizard/pool"
)

// noise: bytes without a pattern, the same ones each time.
func noise(seed uint32, count int) []byte {
	b := make([]byte, count)
	for i := range b {
		seed = seed*1664525 + 1013904223
		b[i] = byte(seed >> 24)
	}
	return b
}

// scribble changes all bytes of an answer, also those of its spare room.
func scribble(b []byte) {
	b = b[:cap(b)]
	for i := range b {
		b[i] ^= 0x5a
	}
}

// farOff: numbers that are no buffer's, no owner's and no size; some would be, if a part of their bits were left out.
func farOff() []int {
	return []int{
		math.MinInt, math.MinInt + 1, math.MinInt32, -1 << 32, -65_536, -1024, -256, -255, -2, -1,
		1024, 1025, 65_536, 65_537, 1 << 31, 1 << 32, 1<<32 + 1, 1<<62 + 1, math.MaxInt - 1, math.MaxInt,
	}
}

// shelf is what a pool should have: of each buffer its owner (0 if it is free), and its bytes.
type shelf struct {
	owners []int
	texts  []string
}

// row is what a ring should have: its buffers, and what it was told and counted.
type row struct {
	buffers              []int
	size, owner, dropped int
}

// world is a pool and rings on it, and what they should have.
type world struct {
	pool  *pool.Pool
	shelf shelf
	rings []*Ring
	rows  []row
}

// worldOf: a pool of so many buffers, and for each size a ring: of the owner 1, of 2, and so on.
func worldOf(t *testing.T, many int, sizes ...int) *world {
	t.Helper()
	p, e := pool.New(many)
	if e != api.OK {
		t.Fatal(e)
	}
	w := &world{pool: p, shelf: shelf{make([]int, many), make([]string, many)}}
	for i, size := range sizes {
		r, e := New(p, size, i+1)
		if r == nil || e != api.OK {
			t.Fatalf("New(%d, %d): %v, %d", size, i+1, r, e)
		}
		w.rings = append(w.rings, r)
		w.rows = append(w.rows, row{size: size, owner: i + 1})
	}
	w.is(t, "new")
	return w
}

// clone: the same, by itself.
func (w *world) clone() *world {
	p := w.pool.Clone()
	c := &world{pool: p, shelf: shelf{slices.Clone(w.shelf.owners), slices.Clone(w.shelf.texts)}, rows: slices.Clone(w.rows)}
	for i, r := range w.rings {
		c.rings = append(c.rings, r.Clone(p))
		c.rows[i].buffers = slices.Clone(w.rows[i].buffers)
	}
	return c
}

// got: what a pool's Take should answer, and what is there behind it.
func (s shelf) got(owner int, b []byte) (int, api.Errno) {
	if owner < 1 || owner > 255 || len(b) > 1514 {
		return -1, api.ErrRange
	}
	buffer := slices.Index(s.owners, 0)
	if buffer < 0 {
		return -1, api.ErrFull
	}
	s.owners[buffer], s.texts[buffer] = owner, string(b)
	return buffer, api.OK
}

// handed: what a pool's Hand should answer, and what is there behind it.
func (s shelf) handed(buffer, from, to int) api.Errno {
	if from < 1 || from > 255 {
		return api.ErrRange
	}
	if buffer < 0 || buffer >= len(s.owners) {
		return api.ErrNone
	}
	if s.owners[buffer] != from {
		return api.ErrState
	}
	s.owners[buffer] = to
	return api.OK
}

// put does it in the ring and in what it should have, and holds the answers against each other.
func (w *world) put(t *testing.T, name string, i int, b []byte) api.Errno {
	t.Helper()
	o := &w.rows[i]
	buffer, want := 0, api.ErrFull
	if len(o.buffers) < o.size {
		buffer, want = w.shelf.got(o.owner, b)
	}
	o.lay(buffer, want)
	if e := w.rings[i].Put(b); e != want {
		t.Fatalf("%s: ring %d: Put(%d bytes): %d; want %d", name, i, len(b), e, want)
	}
	return want
}

// move is as put.
func (w *world) move(t *testing.T, name string, i, buffer, from int) api.Errno {
	t.Helper()
	o := &w.rows[i]
	want := api.ErrFull
	if len(o.buffers) < o.size {
		want = w.shelf.handed(buffer, from, o.owner)
	}
	o.lay(buffer, want)
	if e := w.rings[i].Move(buffer, from); e != want {
		t.Fatalf("%s: ring %d: Move(%d, %d): %d; want %d", name, i, buffer, from, e, want)
	}
	return want
}

// lay: what a ring should have behind a Put or a Move.
func (o *row) lay(buffer int, e api.Errno) {
	if e == api.OK {
		o.buffers = append(o.buffers, buffer)
	} else {
		o.dropped++
	}
}

// take is as put.
func (w *world) take(t *testing.T, name string, i int) {
	t.Helper()
	o := &w.rows[i]
	want, some := "", len(o.buffers) > 0
	if some {
		first := o.buffers[0]
		want = w.shelf.texts[first]
		w.shelf.owners[first], w.shelf.texts[first] = 0, ""
		o.buffers = slices.Clone(o.buffers[1:])
	}
	if b, ok := w.rings[i].Take(); ok != some || string(b) != want {
		t.Fatalf("%s: ring %d: Take: % x, %v; want % x, %v", name, i, b, ok, want, some)
	}
}

// get: a buffer that an owner takes from the pool itself.
func (w *world) get(t *testing.T, owner int, b []byte) int {
	t.Helper()
	buffer, e := w.pool.Take(owner, b)
	if want, wantE := w.shelf.got(owner, b); buffer != want || e != wantE || e != api.OK {
		t.Fatalf("the pool's Take: %d, %d", buffer, e)
	}
	return buffer
}

// is holds all that the rings and their pool tell against what they should have.
func (w *world) is(t *testing.T, name string) {
	t.Helper()
	left := 0
	for buffer, owner := range w.shelf.owners {
		if owner == 0 {
			left++
		}
		b, ok := w.pool.Bytes(buffer)
		if got := w.pool.Owner(buffer); got != owner || ok != (owner != 0) || string(b) != w.shelf.texts[buffer] {
			t.Errorf("%s: buffer %d is %d's, with % x; want %d's, with % x", name, buffer, got, b, owner, w.shelf.texts[buffer])
		}
	}
	if got := w.pool.Left(); got != left {
		t.Errorf("%s: %d left; want %d", name, got, left)
	}
	for i, r := range w.rings {
		o := w.rows[i]
		if r.Len() != len(o.buffers) || r.Size() != o.size || r.Dropped() != o.dropped {
			t.Errorf("%s: ring %d: has %d of %d, dropped %d; want %d of %d, %d", name, i, r.Len(), r.Size(), r.Dropped(), len(o.buffers), o.size, o.dropped)
		}
		if all := texts(r.All()); !slices.Equal(all, w.texts(i)) {
			t.Errorf("%s: ring %d has %x; want %x", name, i, all, w.texts(i))
		}
	}
}

// texts: the bytes that a ring should have, in order.
func (w *world) texts(i int) []string {
	var all []string
	for _, buffer := range w.rows[i].buffers {
		all = append(all, w.shelf.texts[buffer])
	}
	return all
}

// texts: lists of bytes as texts, which may be held against others.
func texts(lists [][]byte) []string {
	var all []string
	for _, b := range lists {
		all = append(all, string(b))
	}
	return all
}

// The chapter's example.
func TestExample(t *testing.T) {
	p, _ := pool.New(4)
	r, e := New(p, 1, 1)
	if r == nil || e != api.OK {
		t.Fatal(r, e)
	}
	if e := r.Put([]byte{1}); e != api.OK {
		t.Error(e)
	}
	if e := r.Put([]byte{2}); e != api.ErrFull || r.Dropped() != 1 {
		t.Error(e, r.Dropped())
	}
	if b, ok := r.Take(); !ok || !bytes.Equal(b, []byte{1}) {
		t.Error(b, ok)
	}
	if b, ok := r.Take(); ok || len(b) != 0 || p.Left() != 4 {
		t.Error(b, ok)
	}
}

// P12.1: New of each size and each owner around the edges, and of numbers far off.
func TestNew(t *testing.T) {
	p, _ := pool.New(3)
	numbers := append(farOff(), 0, 1, 2, 3, 4, 100, 127, 128, 254, 255, 256, 257, 258, 511, 512, 513)
	for _, size := range numbers {
		for _, owner := range numbers {
			r, e := New(p, size, owner)
			if size < 1 || size > 256 || owner < 1 || owner > 255 {
				if r != nil || e != api.ErrRange {
					t.Errorf("New(%d, %d): %v, %d", size, owner, r, e)
				}
				continue
			}
			if r == nil || e != api.OK {
				t.Fatalf("New(%d, %d): %v, %d", size, owner, r, e)
			}
			if r.Size() != size || r.Len() != 0 || r.Dropped() != 0 || len(r.All()) != 0 {
				t.Errorf("New(%d, %d): has %d of %d, dropped %d", size, owner, r.Len(), r.Size(), r.Dropped())
			}
			if b, ok := r.Take(); ok || len(b) != 0 {
				t.Errorf("New(%d, %d): % x, %v", size, owner, b, ok)
			}
		}
	}
	if p.Left() != 3 {
		t.Error("the pool is changed")
	}
}

// P12.1: what is laid in by a ring is of its own owner, whichever that is.
func TestEachOwner(t *testing.T) {
	p, _ := pool.New(1)
	for owner := 1; owner < 256; owner++ {
		r, _ := New(p, 2, owner)
		if e := r.Put([]byte{byte(owner)}); e != api.OK || p.Owner(0) != owner {
			t.Errorf("%d: %d, buffer 0 is %d's", owner, e, p.Owner(0))
		}
		if b, ok := r.Take(); !ok || !bytes.Equal(b, []byte{byte(owner)}) || p.Owner(0) != 0 {
			t.Errorf("%d: % x, %v, buffer 0 is %d's", owner, b, ok, p.Owner(0))
		}
	}
}

// P12.1, P12.2: rings of each size around the edges are filled, are full then, and are emptied in that order.
func TestFilling(t *testing.T) {
	for _, size := range []int{1, 2, 3, 10, 255, 256} {
		w := worldOf(t, 300, size)
		for i := range size {
			if e := w.put(t, "filling", 0, noise(uint32(size+i), i%9)); e != api.OK {
				t.Fatal(size, i, e)
			}
		}
		w.is(t, "full")
		for range 3 {
			if e := w.put(t, "full", 0, []byte{1}); e != api.ErrFull {
				t.Error(size, e)
			}
		}
		w.is(t, "still full")
		for range size + 2 {
			w.take(t, "emptying", 0)
		}
		w.is(t, "empty")
		if w.pool.Left() != 300 || w.rings[0].Dropped() != 3 {
			t.Errorf("of %d: %d left, %d dropped", size, w.pool.Left(), w.rings[0].Dropped())
		}
	}
}

// P12.1: Put of so many bytes as a buffer may have, or of more.
func TestPutOfEachLength(t *testing.T) {
	w := worldOf(t, 2, 2)
	counts := []int{1600, 3000, 65_535, 65_536, 65_537, 1 << 20}
	for count := range 1520 {
		counts = append(counts, count)
	}
	for _, count := range counts {
		want := api.OK
		if count > 1514 {
			want = api.ErrRange
		}
		if e := w.put(t, "of each length", 0, noise(uint32(count), count)); e != want {
			t.Errorf("%d bytes: %d; want %d", count, e, want)
		}
		w.is(t, "of each length")
		w.take(t, "of each length", 0)
	}
	w.is(t, "of each length")
}

// P12.1: a ring has the bytes up to the length of what was handed in, and none of those behind it.
func TestBytesBehindTheLength(t *testing.T) {
	long := noise(4, 3000)
	before := bytes.Clone(long)
	w := worldOf(t, 9, 9)
	for _, count := range []int{0, 1, 2, 1513, 1514, 1515} {
		w.put(t, "with more behind it", 0, long[:count])
	}
	w.is(t, "with more behind it")
	if !bytes.Equal(long, before) {
		t.Error("what was handed in is changed")
	}
}

// P12.1: what is wrong with a Put, by itself and together: the ring is full, there are too many bytes, the pool is full; nothing changes, but that one more was dropped.
func TestPutErrors(t *testing.T) {
	some, most, long := []byte{1, 2}, noise(5, 1514), noise(6, 1515)
	for _, c := range []struct {
		name                 string
		ringFull, poolFull   bool
		some, nothing, most  api.Errno
		tooLong, muchTooLong api.Errno
	}{
		{"room in both", false, false, api.OK, api.OK, api.OK, api.ErrRange, api.ErrRange},
		{"the pool is full", false, true, api.ErrFull, api.ErrFull, api.ErrFull, api.ErrRange, api.ErrRange},
		{"the ring is full", true, false, api.ErrFull, api.ErrFull, api.ErrFull, api.ErrFull, api.ErrFull},
		{"both are full", true, true, api.ErrFull, api.ErrFull, api.ErrFull, api.ErrFull, api.ErrFull},
	} {
		w := worldOf(t, 3, 2)
		w.put(t, c.name, 0, []byte{7})
		if c.ringFull {
			w.put(t, c.name, 0, []byte{8})
		}
		for c.poolFull && w.pool.Left() > 0 {
			w.get(t, 9, []byte{9})
		}
		for _, d := range []struct {
			b    []byte
			want api.Errno
		}{{some, c.some}, {nil, c.nothing}, {[]byte{}, c.nothing}, {most, c.most}, {long, c.tooLong}, {make([]byte, 70_000), c.muchTooLong}} {
			v := w.clone()
			if e := v.put(t, c.name, 0, d.b); e != d.want {
				t.Errorf("%s: %d bytes: %d; want %d", c.name, len(d.b), e, d.want)
			}
			if dropped := v.rings[0].Dropped(); dropped != 0 && d.want == api.OK || dropped != 1 && d.want != api.OK {
				t.Errorf("%s: %d bytes: %d dropped", c.name, len(d.b), dropped)
			}
			v.is(t, c.name)
		}
		w.is(t, c.name)
	}
}

// P12.2: a buffer of another owner is laid in with its bytes, and keeps its number in the pool.
func TestMove(t *testing.T) {
	w := worldOf(t, 6, 6)
	for buffer, owner := range []int{2, 3, 254, 255, 2} {
		w.get(t, owner, noise(uint32(owner), buffer))
	}
	w.put(t, "put", 0, []byte{1, 1})
	for _, c := range [][2]int{{4, 2}, {0, 2}, {3, 255}, {1, 3}, {2, 254}} {
		if e := w.move(t, "moved", 0, c[0], c[1]); e != api.OK {
			t.Errorf("Move(%d, %d): %d", c[0], c[1], e)
		}
		w.is(t, "moved")
	}
	if !slices.Equal(w.pool.Held(1), []int{0, 1, 2, 3, 4, 5}) {
		t.Error(w.pool.Held(1))
	}
	for _, b := range [][]byte{{1, 1}, noise(2, 4), nil, noise(255, 3), noise(3, 1), noise(254, 2)} {
		if got, ok := w.rings[0].Take(); !ok || !bytes.Equal(got, b) {
			t.Errorf("% x, %v; want % x", got, ok, b)
		}
	}
	if w.pool.Left() != 6 || w.rings[0].Dropped() != 0 {
		t.Error(w.pool.Left(), w.rings[0].Dropped())
	}
}

// P12.2: Move from every owner there is, and from the numbers just beside them.
func TestMoveFromEachOwner(t *testing.T) {
	p, _ := pool.New(2)
	for from := -3; from < 260; from++ {
		r, _ := New(p, 1, 100)
		isOwner := from >= 1 && from <= 255
		want := api.ErrRange
		if isOwner {
			want = api.OK
			p.Take(from, []byte{byte(from)})
		}
		if e := r.Move(0, from); e != want {
			t.Errorf("from %d: %d; want %d", from, e, want)
		}
		if isOwner && p.Owner(0) != 100 || !isOwner && r.Dropped() != 1 {
			t.Errorf("from %d: buffer 0 is %d's, %d dropped", from, p.Owner(0), r.Dropped())
		}
		if b, ok := r.Take(); ok != isOwner || ok && !bytes.Equal(b, []byte{byte(from)}) || p.Left() != 2 {
			t.Errorf("from %d: % x, %v", from, b, ok)
		}
	}
}

// P12.2: the first and the last buffer of a pool are moved, and those beside them are none.
func TestMoveOfEachBuffer(t *testing.T) {
	for _, many := range []int{1, 2, 1023, 1024} {
		w := worldOf(t, many, 256)
		for i := range many {
			w.get(t, 2, noise(uint32(i), i%4))
		}
		for _, c := range []struct {
			buffer int
			want   api.Errno
		}{{-1, api.ErrNone}, {many, api.ErrNone}, {many - 1, api.OK}, {many + 1, api.ErrNone}, {math.MinInt, api.ErrNone}, {math.MaxInt, api.ErrNone}} {
			if e := w.move(t, "of each", 0, c.buffer, 2); e != c.want {
				t.Errorf("of %d: Move(%d): %d; want %d", many, c.buffer, e, c.want)
			}
		}
		if many > 1 {
			w.move(t, "of each", 0, 0, 2)
		}
		w.is(t, "of each")
	}
}

// P12.2: what is wrong with a Move, by itself and together: the ring is full, the owner's number, there is no such buffer, it isn't that owner's; nothing changes, but that one more was dropped.
func TestMoveErrors(t *testing.T) {
	// Buffer 0 is the ring's own, 1 is owner 2's, 2 is free, and 3, the last one, is owner 255's.
	w := worldOf(t, 4, 2)
	w.put(t, "own", 0, []byte{7})
	w.get(t, 2, []byte{8, 8})
	free := w.get(t, 3, []byte{9})
	w.get(t, 255, []byte{5, 5, 5})
	w.pool.Free(free, 3)
	w.shelf.owners[free], w.shelf.texts[free] = 0, ""
	w.is(t, "before")
	full := w.clone()
	full.put(t, "full", 0, []byte{4})
	for _, c := range []struct {
		name         string
		buffer, from int
		want         api.Errno
	}{
		{"right", 1, 2, api.OK},
		{"right, the last one", 3, 255, api.OK},
		{"from no owner", 1, 0, api.ErrRange},
		{"from no owner, below", 1, -1, api.ErrRange},
		{"from no owner, above", 1, 256, api.ErrRange},
		{"from no owner, the owner's lowest bits", 1, 258, api.ErrRange},
		{"none such", 4, 2, api.ErrNone},
		{"none such, below", -1, 2, api.ErrNone},
		{"none such, a buffer's lowest bits", 1<<32 + 1, 2, api.ErrNone},
		{"another's", 1, 3, api.ErrState},
		{"another's, from the ring's own", 1, 1, api.ErrState},
		{"another's, the last one", 3, 2, api.ErrState},
		{"the ring's own, from another", 0, 2, api.ErrState},
		{"free", 2, 2, api.ErrState},
		{"free, of whom it was", 2, 3, api.ErrState},
		{"free, from the ring's own", 2, 1, api.ErrState},
		{"from no owner, none such", 4, 0, api.ErrRange},
		{"from no owner, none such, below", -1, 256, api.ErrRange},
		{"from no owner, free", 2, 0, api.ErrRange},
		{"from no owner, the ring's own", 0, 0, api.ErrRange},
	} {
		v := w.clone()
		if e := v.move(t, c.name, 0, c.buffer, c.from); e != c.want {
			t.Errorf("%s: %d; want %d", c.name, e, c.want)
		}
		if dropped := v.rings[0].Dropped(); dropped != 0 && c.want == api.OK || dropped != 1 && c.want != api.OK {
			t.Errorf("%s: %d dropped", c.name, dropped)
		}
		v.is(t, c.name)
		v = full.clone()
		if e := v.move(t, c.name, 0, c.buffer, c.from); e != api.ErrFull || v.rings[0].Dropped() != 1 {
			t.Errorf("%s, full: %d, %d dropped", c.name, e, v.rings[0].Dropped())
		}
		v.is(t, c.name+", full")
	}
	w.is(t, "before")
	full.is(t, "full")
}

// P12.2: a Move needs no free buffer.
func TestMoveWithAFullPool(t *testing.T) {
	w := worldOf(t, 2, 2)
	w.get(t, 2, []byte{1})
	w.get(t, 3, []byte{2})
	if e := w.move(t, "full pool", 0, 1, 3); e != api.OK {
		t.Error(e)
	}
	if e := w.put(t, "full pool", 0, []byte{3}); e != api.ErrFull {
		t.Error(e)
	}
	if e := w.move(t, "full pool", 0, 0, 2); e != api.OK {
		t.Error(e)
	}
	w.is(t, "full pool")
}

// P12.2: a buffer that the ring's owner has beside the ring is moved into it as another owner's is.
func TestMoveFromItsOwn(t *testing.T) {
	w := worldOf(t, 4, 3)
	w.put(t, "own", 0, []byte{1})
	buffer := w.get(t, 1, []byte{2, 2})
	w.is(t, "beside")
	if e := w.move(t, "own", 0, buffer, 1); e != api.OK {
		t.Error(e)
	}
	w.put(t, "own", 0, []byte{3, 3, 3})
	w.is(t, "own")
	if all := w.rings[0].All(); len(all) != 3 || !bytes.Equal(all[1], []byte{2, 2}) || w.rings[0].Dropped() != 0 {
		t.Error(all, w.rings[0].Dropped())
	}
	if e := w.move(t, "own, full", 0, buffer, 1); e != api.ErrFull {
		t.Error(e)
	}
	w.is(t, "own, full")
	for range 4 {
		w.take(t, "own", 0)
	}
	w.is(t, "own, empty")
}

// P12.2: a buffer that is in the ring already is its last one, if it is moved from the ring's own owner; it changes nothing in the pool, and is freed once.
func TestMoveOfWhatItHas(t *testing.T) {
	w := worldOf(t, 4, 4)
	w.put(t, "one", 0, []byte{1})
	w.put(t, "two", 0, []byte{2})
	r := w.rings[0]
	if e := r.Move(0, 1); e != api.OK || r.Dropped() != 0 {
		t.Error(e, r.Dropped())
	}
	if all := r.All(); len(all) == 0 || !bytes.Equal(all[len(all)-1], []byte{1}) {
		t.Error(all)
	}
	if !slices.Equal(w.pool.Held(1), []int{0, 1}) {
		t.Error(w.pool.Held(1))
	}
	for r.Len() > 0 {
		if _, ok := r.Take(); !ok {
			t.Fatal("nothing is taken of a ring that has something")
		}
	}
	if b, ok := r.Take(); ok || len(b) != 0 || w.pool.Left() != 4 {
		t.Error(b, ok, w.pool.Left())
	}
}

// P12.2: Take of an empty ring answers nothing, and drops nothing, whatever was there before.
func TestTakeOfNothing(t *testing.T) {
	w := worldOf(t, 3, 2)
	w.get(t, 1, []byte{6, 6})
	for range 5 {
		w.take(t, "empty", 0)
		w.is(t, "empty")
		w.put(t, "some", 0, []byte{1, 2, 3})
		w.take(t, "some", 0)
	}
	if b, ok := w.rings[0].Take(); ok || len(b) != 0 || w.rings[0].Dropped() != 0 {
		t.Error(b, ok, w.rings[0].Dropped())
	}
	w.is(t, "empty")
}

// P12.2: a buffer without bytes is taken out as any other one.
func TestTakeOfNoBytes(t *testing.T) {
	w := worldOf(t, 2, 2)
	w.put(t, "nil", 0, nil)
	w.put(t, "empty", 0, []byte{})
	w.is(t, "no bytes")
	for range 2 {
		if b, ok := w.rings[0].Take(); !ok || len(b) != 0 {
			t.Error(b, ok)
		}
	}
	if _, ok := w.rings[0].Take(); ok || w.pool.Left() != 2 {
		t.Error(ok, w.pool.Left())
	}
}

// P12.1, P12.2: rings go round more often than their size, with each count of buffers that stays in them, laid in by Put and by Move.
func TestRound(t *testing.T) {
	for _, size := range []int{1, 2, 3, 4, 7} {
		for stays := range size {
			w := worldOf(t, 10, size)
			for i := range stays {
				w.put(t, "stays", 0, []byte{byte(i)})
			}
			for i := range 3*size + 2 {
				if i%2 == 0 {
					w.put(t, "round", 0, noise(uint32(i), i%5))
				} else {
					w.move(t, "round", 0, w.get(t, 9, noise(uint32(i), i%5)), 9)
				}
				w.is(t, "round, laid in")
				w.take(t, "round", 0)
				w.is(t, "round, taken out")
			}
		}
	}
	w := worldOf(t, 1024, 256)
	for i := range 256 {
		w.put(t, "the greatest", 0, []byte{byte(i)})
	}
	for i := range 600 {
		w.take(t, "the greatest", 0)
		w.put(t, "the greatest", 0, []byte{byte(i), byte(i >> 8)})
	}
	w.is(t, "the greatest")
}

// P12.1, P12.2: two rings on one pool have each their own buffers, and share what is free.
func TestTwoRings(t *testing.T) {
	w := worldOf(t, 4, 3, 3)
	for _, i := range []int{0, 1, 0, 1} {
		w.put(t, "two", i, noise(uint32(w.pool.Left()), 3))
		w.is(t, "two")
	}
	for i := range 2 {
		if e := w.put(t, "full pool", i, []byte{1}); e != api.ErrFull || w.rings[i].Len() != 2 || w.rings[i].Dropped() != 1 {
			t.Error(i, e, w.rings[i].Len(), w.rings[i].Dropped())
		}
	}
	w.is(t, "full pool")
	w.take(t, "one", 1)
	w.is(t, "one is taken")
	if e := w.put(t, "the other's", 0, []byte{2}); e != api.OK {
		t.Error(e)
	}
	w.is(t, "the other's")
	// Buffer 3 is the second ring's: no one moves it from the first one's owner.
	if e := w.move(t, "not its own", 0, 3, 1); e != api.ErrFull {
		t.Error(e)
	}
	w.take(t, "first", 0)
	if e := w.move(t, "not its own", 0, 3, 1); e != api.ErrState {
		t.Error(e)
	}
	w.is(t, "not its own")
	for range 3 {
		w.take(t, "first", 0)
		w.take(t, "second", 1)
	}
	w.is(t, "empty")
	if w.pool.Left() != 4 {
		t.Error(w.pool.Left())
	}
}

// P12.3: Len, Size, Dropped and All, with what comes and goes.
func TestWhatItTells(t *testing.T) {
	p, _ := pool.New(5)
	r, _ := New(p, 3, 7)
	is := func(name string, length, dropped int, all ...string) {
		t.Helper()
		if r.Len() != length || r.Size() != 3 || r.Dropped() != dropped || !slices.Equal(texts(r.All()), all) {
			t.Errorf("%s: %d of %d, %d dropped: %q", name, r.Len(), r.Size(), r.Dropped(), r.All())
		}
	}
	is("new", 0, 0)
	r.Put([]byte("a"))
	is("one", 1, 0, "a")
	p.Take(8, []byte("b"))
	r.Move(1, 8)
	is("moved", 2, 0, "a", "b")
	r.Move(1, 8)
	is("not moved", 2, 1, "a", "b")
	r.Put(make([]byte, 1515))
	is("too long", 2, 2, "a", "b")
	r.Put(nil)
	is("full", 3, 2, "a", "b", "")
	r.Put([]byte("c"))
	r.Move(9, 9)
	is("full, dropped", 3, 4, "a", "b", "")
	r.Take()
	is("taken", 2, 4, "b", "")
	r.Put([]byte("d"))
	is("round", 3, 4, "b", "", "d")
	r.Take()
	r.Take()
	r.Take()
	is("empty", 0, 4)
	r.Take()
	is("still empty", 0, 4)
}

// P12.3: a ring and its clone, each on a pool of its own, go on each by itself, whichever of them is told something, from each count of buffers in it and each slot on.
func TestClone(t *testing.T) {
	for turned := range 4 {
		for has := range 4 {
			for _, c := range []struct {
				name string
				tell func(*world)
			}{
				{"nothing", func(*world) {}},
				{"Put", func(w *world) { w.put(t, "clone", 0, []byte{70, 71}) }},
				{"Put, too long", func(w *world) { w.put(t, "clone", 0, make([]byte, 1515)) }},
				{"Move", func(w *world) { w.move(t, "clone", 0, w.get(t, 9, []byte{72}), 9) }},
				{"Move, not its", func(w *world) { w.move(t, "clone", 0, 0, 8) }},
				{"Take", func(w *world) { w.take(t, "clone", 0) }},
				{"Take and Put", func(w *world) { w.take(t, "clone", 0); w.put(t, "clone", 0, []byte{73, 74, 75}) }},
				{"all", func(w *world) {
					for i := range 7 {
						w.put(t, "clone", 0, []byte{80, byte(i)})
						w.take(t, "clone", 0)
						w.put(t, "clone", 0, []byte{90, byte(i)})
						w.put(t, "clone", 0, []byte{95, byte(i)})
					}
				}},
			} {
				w := worldOf(t, 9, 3)
				for i := range turned {
					w.put(t, "turned", 0, []byte{byte(i)})
					w.take(t, "turned", 0)
				}
				w.put(t, "dropped", 0, make([]byte, 1515))
				for i := range has {
					w.put(t, "has", 0, noise(uint32(i), i+1))
				}
				clone := w.clone()
				clone.is(t, c.name+": the clone")
				c.tell(w)
				clone.is(t, c.name+" in the ring: the clone")
				w.is(t, c.name+" in the ring")
				before := clone.clone()
				c.tell(clone)
				w.is(t, c.name+" in the clone: the ring")
				clone.is(t, c.name+" in the clone")
				before.is(t, c.name+" in the clone: its own clone")
			}
		}
	}
}

// P12.3: a clone works on the pool that it is given, and on no other one.
func TestCloneOnItsPool(t *testing.T) {
	w := worldOf(t, 5, 4, 2)
	w.put(t, "first", 0, []byte{1})
	w.put(t, "second", 1, []byte{2})
	w.put(t, "first", 0, []byte{3})
	clone := w.clone()
	for i, r := range clone.rings {
		if r == w.rings[i] {
			t.Error("the same ring")
		}
	}
	for range 2 {
		clone.take(t, "clone", 0)
		clone.take(t, "clone", 1)
	}
	if w.pool.Left() != 2 || clone.pool.Left() != 5 {
		t.Error(w.pool.Left(), clone.pool.Left())
	}
	w.is(t, "first")
	clone.is(t, "clone")
}

// P12.3: what is handed in isn't kept: a later change of it changes nothing.
func TestNothingIsKept(t *testing.T) {
	w := worldOf(t, 4, 4)
	for _, count := range []int{1, 40, 1514} {
		long := noise(uint32(count), 2000)
		w.put(t, "kept", 0, long[:count])
		scribble(long)
		w.is(t, "a change of what was handed in")
	}
	for range 3 {
		w.take(t, "kept", 0)
	}
}

// P12.3: what is answered is new memory: a change of it changes neither the ring, nor its pool, nor its clone, nor another answer.
func TestAnswersAreNew(t *testing.T) {
	w := worldOf(t, 6, 5)
	for i := range 5 {
		w.put(t, "new", 0, noise(uint32(i), 3*i))
	}
	clone := w.clone()
	for _, v := range []*world{w, clone} {
		r := v.rings[0]
		kept := r.All()
		all := r.All()
		for _, b := range all {
			scribble(b)
		}
		all = all[:cap(all)]
		for i := range all {
			all[i] = []byte("another")
		}
		w.is(t, "All, changed")
		clone.is(t, "All, changed: the clone")
		if !slices.Equal(texts(kept), v.texts(0)) {
			t.Errorf("%x: an answer is changed with another one", kept)
		}
	}
	// One list of an answer is changed, and the others of that answer are looked at.
	for i := range 5 {
		all := w.rings[0].All()
		scribble(all[i])
		all[i] = noise(uint32(i), 3*i)
		if !slices.Equal(texts(all), w.texts(0)) {
			t.Errorf("%x: lists of one answer share memory", all)
		}
	}
	all := w.rings[0].All()
	for range 5 {
		b, _ := w.rings[0].Take()
		scribble(b)
	}
	clone.is(t, "Take, changed: the clone")
	if !slices.Equal(texts(all), clone.texts(0)) {
		t.Errorf("%x: an answer is changed with what was taken", all)
	}
}

// P12.3: an answer stays as it is, whatever becomes of the ring and its pool.
func TestAnswersStay(t *testing.T) {
	w := worldOf(t, 2, 2)
	w.put(t, "one", 0, []byte{1, 1})
	w.put(t, "two", 0, []byte{2, 2})
	all := w.rings[0].All()
	first, _ := w.rings[0].Take()
	w.rings[0].Put([]byte{3, 3})
	w.rings[0].Take()
	w.rings[0].Take()
	w.rings[0].Put([]byte{4, 4})
	w.rings[0].Put([]byte{5, 5})
	if !slices.Equal(texts(all), []string{"\x01\x01", "\x02\x02"}) || !bytes.Equal(first, []byte{1, 1}) {
		t.Errorf("%x, %x", all, first)
	}
}

// beside: is the buffer in none of the rings?
func (w *world) beside(buffer int) bool {
	for _, o := range w.rows {
		if slices.Contains(o.buffers, buffer) {
			return false
		}
	}
	return true
}

// release: the pool frees a buffer that is in none of the rings, if there is one.
func (w *world) release(buffer int) {
	if buffer < 0 || buffer >= len(w.shelf.owners) || w.shelf.owners[buffer] == 0 || !w.beside(buffer) {
		return
	}
	w.pool.Free(buffer, w.shelf.owners[buffer])
	w.shelf.owners[buffer], w.shelf.texts[buffer] = 0, ""
}

// script tells rings on one pool what numbers say, and holds them against what they should have, and their clones, too.
func script(t *testing.T, seed uint32, many int, sizes []int, steps, every int) {
	w := worldOf(t, many, sizes...)
	clone := w.clone()
	b := noise(seed, 4*steps)
	for step := range steps {
		n := b[4*step : 4*step+4]
		i, buffer, from := int(n[1])%len(sizes), int(n[2])%(many+2)-1, int(n[3])%7-1
		switch n[0] % 10 {
		case 0, 1, 2:
			w.put(t, "script", i, b[4*step:4*step+int(n[3])%4])
		case 3:
			// What a ring has is moved out of it by no one: it is taken out.
			if w.beside(buffer) {
				w.move(t, "script", i, buffer, from)
			}
		case 4:
			if w.pool.Left() > 0 {
				w.move(t, "script", i, w.get(t, 4, n[:n[3]%5]), 4)
			}
		case 5, 6, 7:
			w.take(t, "script", i)
		case 8:
			if w.pool.Left() > 0 {
				w.get(t, from&3+1, n)
			}
			w.release(buffer)
		case 9:
			if n[1] < 64 {
				clone = w.clone()
			} else {
				// From here on the clone is told what comes.
				w, clone = clone, w
			}
		}
		if step%every == 0 {
			w.is(t, "script")
			clone.is(t, "script's clone")
		}
	}
	w.is(t, "script")
	clone.is(t, "script's clone")
}

// P12.1, P12.2, P12.3: rows of calls of every kind, with what the rings and their pool have behind each of them.
func TestScripts(t *testing.T) {
	for seed := range uint32(60) {
		script(t, seed, int(seed)%12+1, []int{int(seed)%4 + 1, int(seed)%3 + 2, 1}[:seed%3+1], 300, 1)
	}
	script(t, 1000, 40, []int{20, 10, 15}, 4000, 40)
	script(t, 1001, 1024, []int{256, 255}, 6000, 600)
}

// P1: every call ends and none panics, at all arguments, and what is far off changes nothing but what was dropped.
func TestAnyArguments(t *testing.T) {
	numbers := append(farOff(), 0, 1, 2, 3, 4, 5, 254, 255, 256, 257)
	lists := [][]byte{nil, {}, {1}, noise(1, 1514), noise(2, 1515), make([]byte, 1<<20)}
	w := worldOf(t, 4, 2, 1)
	w.put(t, "any", 0, []byte{1})
	w.get(t, 3, []byte{2})
	for _, a := range numbers {
		for _, b := range numbers {
			if r, e := New(w.pool, a, b); (r == nil) != (e == api.ErrRange) || r != nil && e != api.OK {
				t.Errorf("New(%d, %d): %v, %d", a, b, r, e)
			}
			if a == 0 {
				// Buffer 0 is in the ring already.
				continue
			}
			v := w.clone()
			v.move(t, "any", 0, a, b)
			v.move(t, "any", 1, a, b)
			v.is(t, "any")
		}
	}
	for _, b := range lists {
		v := w.clone()
		for range 3 {
			v.put(t, "any", 0, b)
			v.put(t, "any", 1, b)
		}
		v.is(t, "any")
		for range 3 {
			v.take(t, "any", 0)
			v.take(t, "any", 1)
		}
		v.is(t, "any, empty")
	}
	w.is(t, "any")
}

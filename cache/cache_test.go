package cache

import (
	"math"
	"slices"
	"testing"

	"vizard/api"
	"vizard/place"
)

// The greatest time there is, the longest life and patience, and the most neighbours and tokens in a row, as the document has them.
const (
	last     = uint64(1) << 61
	longLife = uint64(1) << 32
	mostRoom = 256
	mostWait = 64
)

// noise: numbers without a pattern, the same ones each time.
func noise(seed uint64, count int) []uint64 {
	l := make([]uint64, count)
	for i := range l {
		seed = seed*6364136223846793005 + 1442695040888963407
		l[i] = seed ^ seed>>33
	}
	return l
}

// scribble changes all numbers of an answer, also those of its spare room.
func scribble(l []int) {
	l = l[:cap(l)]
	for i := range l {
		l[i] ^= 0x5a
	}
}

// mac: a Mac that a number says, in all its bytes.
func mac(n uint64) place.Mac {
	return place.Mac{byte(n), byte(n >> 8), byte(n >> 16), byte(n >> 24), byte(n >> 32), byte(n>>40) + 1}
}

// late: times that are above the greatest there is, and count as that; some wouldn't, if a part of their bits were left out.
func late() []uint64 {
	return []uint64{last + 1, last + 2, last | 1<<32, 3 << 60, 1 << 62, 1<<62 | 100, 1<<63 - 1, 1 << 63, 1<<63 + 1, 1<<63 | 100, math.MaxUint64 - longLife, math.MaxUint64 - 1, math.MaxUint64}
}

// ips: Ips of every kind; some are alike, but for a part of their bits.
func ips() []uint32 {
	return []uint32{0, 1, 2, 255, 256, 257, 65_535, 65_536, 1 << 24, 0x0a000001, 0x0a000002, 1<<31 - 1, 1 << 31, 1<<31 + 1, 0xc0a80001, 0xfffffffe, 0xffffffff}
}

// known is an entry as it should be, and waiting a row.
type known struct {
	ip  uint32
	mac place.Mac
	at  uint64
}

type waiting struct {
	ip     uint32
	at     uint64
	tokens []int
}

// model is what a cache should have: its entries in the order of learning, and its rows in the order in which they began.
type model struct {
	room, wait     int
	life, patience uint64
	known          []known
	waiting        []waiting
}

// clone: the same, by itself.
func (m *model) clone() *model {
	c := *m
	c.known = slices.Clone(m.known)
	c.waiting = slices.Clone(m.waiting)
	for i := range c.waiting {
		c.waiting[i].tokens = slices.Clone(c.waiting[i].tokens)
	}
	return &c
}

// entry: the place of an Ip's entry, or -1.
func (m *model) entry(ip uint32) int {
	return slices.IndexFunc(m.known, func(k known) bool { return k.ip == ip })
}

// row: the place of an Ip's row, or -1.
func (m *model) row(ip uint32) int {
	return slices.IndexFunc(m.waiting, func(w waiting) bool { return w.ip == ip })
}

// learn: what Learn should answer, and what is there behind it.
func (m *model) learn(ip uint32, mac place.Mac, now uint64) []int {
	if i := m.entry(ip); i >= 0 {
		m.known = slices.Delete(m.known, i, i+1)
	} else if len(m.known) == m.room {
		m.known = m.known[1:]
	}
	m.known = append(slices.Clone(m.known), known{ip, mac, min(now, last)})
	i := m.row(ip)
	if i < 0 {
		return nil
	}
	told := m.waiting[i].tokens
	m.waiting = slices.Delete(m.waiting, i, i+1)
	return told
}

// find: what Find should answer.
func (m *model) find(ip uint32, now uint64) (place.Mac, bool) {
	i := m.entry(ip)
	if i < 0 || m.known[i].at+m.life <= min(now, last) {
		return place.Mac{}, false
	}
	return m.known[i].mac, true
}

// waits: what Wait should answer, and what is there behind it.
func (m *model) waits(ip uint32, token int, now uint64) (bool, api.Errno) {
	i := m.row(ip)
	if i < 0 {
		if len(m.waiting) == m.room {
			return false, api.ErrFull
		}
		m.waiting = append(m.waiting, waiting{ip, min(now, last), []int{token}})
		return true, api.OK
	}
	if len(m.waiting[i].tokens) == m.wait {
		return false, api.ErrFull
	}
	m.waiting[i].tokens = append(m.waiting[i].tokens, token)
	return false, api.OK
}

// sweep: what Sweep should answer, and what is there behind it.
func (m *model) sweep(now uint64) []int {
	now = min(now, last)
	m.known = slices.DeleteFunc(m.known, func(k known) bool { return k.at+m.life <= now })
	var gone []waiting
	for _, w := range m.waiting {
		if w.at+m.patience <= now {
			gone = append(gone, w)
		}
	}
	m.waiting = slices.DeleteFunc(m.waiting, func(w waiting) bool { return w.at+m.patience <= now })
	slices.SortFunc(gone, func(a, b waiting) int {
		if a.at < b.at || a.at == b.at && a.ip < b.ip {
			return -1
		}
		return 1
	})
	var told []int
	for _, w := range gone {
		told = append(told, w.tokens...)
	}
	return told
}

// tokens: what Tokens should answer.
func (m *model) tokens() []int {
	var all []int
	for _, w := range m.waiting {
		all = append(all, w.tokens...)
	}
	return all
}

// pair is a cache, and what it should have.
type pair struct {
	cache *Cache
	model *model
}

// pairOf: a new cache of these bounds.
func pairOf(t *testing.T, room, wait int, life, patience uint64) pair {
	t.Helper()
	c, e := New(room, wait, life, patience)
	if c == nil || e != api.OK {
		t.Fatalf("New(%d, %d, %d, %d): %v, %d", room, wait, life, patience, c, e)
	}
	p := pair{c, &model{room: room, wait: wait, life: life, patience: patience}}
	p.is(t, "new")
	return p
}

// clone: the same, by itself.
func (p pair) clone() pair {
	return pair{p.cache.Clone(), p.model.clone()}
}

// learn does it in the cache and in what it should have, and holds the answers against each other.
func (p pair) learn(t *testing.T, name string, ip uint32, m place.Mac, now uint64) []int {
	t.Helper()
	want := p.model.learn(ip, m, now)
	told := p.cache.Learn(ip, m, now)
	if !slices.Equal(told, want) {
		t.Fatalf("%s: Learn(%#x, %v, %d): %v; want %v", name, ip, m, now, told, want)
	}
	return told
}

// waits is as learn.
func (p pair) waits(t *testing.T, name string, ip uint32, token int, now uint64) (bool, api.Errno) {
	t.Helper()
	want, wantE := p.model.waits(ip, token, now)
	first, e := p.cache.Wait(ip, token, now)
	if first != want || e != wantE {
		t.Fatalf("%s: Wait(%#x, %d, %d): %v, %d; want %v, %d", name, ip, token, now, first, e, want, wantE)
	}
	return first, e
}

// sweep is as learn.
func (p pair) sweep(t *testing.T, name string, now uint64) []int {
	t.Helper()
	want := p.model.sweep(now)
	told := p.cache.Sweep(now)
	if !slices.Equal(told, want) {
		t.Fatalf("%s: Sweep(%d): %v; want %v", name, now, told, want)
	}
	return told
}

// find is as learn.
func (p pair) find(t *testing.T, name string, ip uint32, now uint64) (place.Mac, bool) {
	t.Helper()
	want, wantOk := p.model.find(ip, now)
	m, ok := p.cache.Find(ip, now)
	if m != want || ok != wantOk {
		t.Fatalf("%s: Find(%#x, %d): %v, %v; want %v, %v", name, ip, now, m, ok, want, wantOk)
	}
	return m, ok
}

// all: the entries that an iterator tells, without their times.
func all(entries func(yield func(uint32, place.Mac) bool)) []known {
	var l []known
	for ip, m := range entries {
		l = append(l, known{ip: ip, mac: m})
	}
	return l
}

// entries: what all should tell.
func (m *model) entries() []known {
	l := slices.Clone(m.known)
	for i := range l {
		l[i].at = 0
	}
	return l
}

// is holds all that a cache tells against what it should have.
func (p pair) is(t *testing.T, name string) {
	t.Helper()
	c, m := p.cache, p.model
	if c.Len() != len(m.known) || c.Rows() != len(m.waiting) {
		t.Errorf("%s: %d entries, %d rows; want %d, %d", name, c.Len(), c.Rows(), len(m.known), len(m.waiting))
	}
	if tokens, want := c.Tokens(), m.tokens(); !slices.Equal(tokens, want) {
		t.Errorf("%s: tokens %v; want %v", name, tokens, want)
	}
	if l, want := all(c.All()), m.entries(); !slices.Equal(l, want) {
		t.Errorf("%s: entries %v; want %v", name, l, want)
	}
	for _, k := range m.known {
		for _, now := range []uint64{0, k.at, k.at + m.life - 1, k.at + m.life, k.at + m.life + 1, last, math.MaxUint64} {
			p.find(t, name, k.ip, now)
		}
		for bit := range 32 {
			p.find(t, name, k.ip^1<<bit, k.at)
		}
	}
	for _, ip := range ips() {
		p.find(t, name, ip, 0)
	}
}

// The chapter's example.
func TestExample(t *testing.T) {
	c, _ := New(1, 2, 1, 1)
	ip, e := place.Parse("10.0.0.2")
	if e != api.OK {
		t.Fatal(e)
	}
	if first, e := c.Wait(ip, 1, 0); !first || e != api.OK {
		t.Error(first, e)
	}
	if first, e := c.Wait(ip, 2, 0); first || e != api.OK {
		t.Error(first, e)
	}
	if told := c.Learn(ip, mac(1), 0); !slices.Equal(told, []int{1, 2}) {
		t.Error(told)
	}
}

// P14.1: New of bounds that are right.
func TestNew(t *testing.T) {
	for _, room := range []int{1, 2, 255, mostRoom} {
		for _, wait := range []int{1, 2, 63, mostWait} {
			for _, life := range []uint64{1, 2, 1<<31 + 1, longLife - 1, longLife} {
				for _, patience := range []uint64{1, 2, 1<<31 + 1, longLife - 1, longLife} {
					pairOf(t, room, wait, life, patience)
				}
			}
		}
	}
}

// P14.1: New of bounds of which one, or several, are wrong.
func TestNewOfWrongBounds(t *testing.T) {
	wrongRooms := []int{math.MinInt, -1 << 32, -257, -256, -1, 0, 257, 258, 512, 65_536 + 1, 1<<31 + 1, 1<<32 + 1, 1<<32 + 256, 1<<62 + 1, math.MaxInt}
	wrongWaits := []int{math.MinInt, -1 << 32, -64, -1, 0, 65, 66, 128, 256, 256 + 1, 65_536 + 1, 1<<32 + 1, 1<<32 + 64, 1<<62 + 1, math.MaxInt}
	wrongTimes := []uint64{0, longLife + 1, longLife + 2, 1<<33 - 1, 1 << 33, 1<<61 + 1, 1 << 62, 1<<63 - 1, 1 << 63, 1<<63 + 1, math.MaxUint64 - 1, math.MaxUint64}
	wrong := func(room, wait int, life, patience uint64) {
		t.Helper()
		if c, e := New(room, wait, life, patience); c != nil || e != api.ErrRange {
			t.Errorf("New(%d, %d, %d, %d): %v, %d", room, wait, life, patience, c, e)
		}
	}
	for _, room := range wrongRooms {
		wrong(room, 1, 1, 1)
		wrong(room, mostWait, longLife, longLife)
		for _, wait := range wrongWaits {
			wrong(room, wait, 1, 1)
		}
		for _, time := range wrongTimes {
			wrong(room, 1, time, 1)
			wrong(room, 1, 1, time)
		}
		wrong(room, 65, 0, 0)
		wrong(room, 0, longLife+1, longLife+1)
	}
	for _, wait := range wrongWaits {
		wrong(1, wait, 1, 1)
		wrong(mostRoom, wait, longLife, longLife)
		for _, time := range wrongTimes {
			wrong(1, wait, time, 1)
			wrong(1, wait, 1, time)
		}
	}
	for _, life := range wrongTimes {
		wrong(1, 1, life, 1)
		wrong(mostRoom, mostWait, life, longLife)
		wrong(1, 1, 1, life)
		wrong(mostRoom, mostWait, longLife, life)
		for _, patience := range wrongTimes {
			wrong(1, 1, life, patience)
		}
	}
}

// P14.1, P14.2: the bounds are each for its own: room, tokens in a row, life and patience that are unlike.
func TestBoundsAreNotMixed(t *testing.T) {
	for _, c := range []struct {
		room, wait     int
		life, patience uint64
	}{{1, 64, 1, longLife}, {64, 1, longLife, 1}, {2, 5, 3, 9}, {5, 2, 9, 3}, {mostRoom, mostWait, 7, 8}, {mostRoom, mostWait, 8, 7}} {
		p := pairOf(t, c.room, c.wait, c.life, c.patience)
		for i := range c.room + 1 {
			p.learn(t, "entries", uint32(i), mac(uint64(i)), 10)
			for token := range c.wait + 1 {
				p.waits(t, "rows", uint32(i), token, 10)
			}
		}
		p.is(t, "full")
		if p.cache.Len() != c.room || p.cache.Rows() != c.room || len(p.cache.Tokens()) != c.room*c.wait {
			t.Error(c, p.cache.Len(), p.cache.Rows(), len(p.cache.Tokens()))
		}
		for _, now := range []uint64{10, 10 + min(c.life, c.patience) - 1, 10 + min(c.life, c.patience), 10 + max(c.life, c.patience) - 1, 10 + max(c.life, c.patience)} {
			p.sweep(t, "bounds", now)
			p.is(t, "bounds")
		}
		if p.cache.Len() != 0 || p.cache.Rows() != 0 {
			t.Error(c, "not empty", p.cache.Len(), p.cache.Rows())
		}
	}
}

// P14.1: Learn and Find of every kind of Ip, Mac and time.
func TestLearnAndFind(t *testing.T) {
	p := pairOf(t, mostRoom, 1, 1000, 1)
	for i, ip := range ips() {
		for _, m := range []place.Mac{{}, place.All(), mac(uint64(i)), mac(noise(uint64(i), 1)[0])} {
			if told := p.learn(t, "learned", ip, m, uint64(i)); len(told) != 0 {
				t.Error("nobody waits", told)
			}
			if found, ok := p.find(t, "learned", ip, uint64(i)); found != m || !ok {
				t.Errorf("%#x: %v, %v", ip, found, ok)
			}
			p.is(t, "learned")
		}
	}
	if p.cache.Len() != len(ips()) {
		t.Error(p.cache.Len())
	}
	for _, ip := range []uint32{3, 254, 0x0a000003, 0x0a0000ff, 0xfffffffd} {
		if m, ok := p.find(t, "none", ip, 5); m != (place.Mac{}) || ok {
			t.Errorf("%#x: %v, %v", ip, m, ok)
		}
	}
}

// starts: times at which something is learned, or begins.
func starts(long uint64) []uint64 {
	return []uint64{0, 1, 100, 1 << 31, 1<<32 - 1, 1 << 32, 1 << 40, 1 << 60, last - long - 1, last - long}
}

// P14.1, P14.3: an entry is over from its time and the life on: one ahead, at that moment, one behind.
func TestLife(t *testing.T) {
	for _, life := range []uint64{1, 2, 10, 1<<31 + 3, longLife - 1, longLife} {
		for _, at := range starts(life) {
			p := pairOf(t, 3, 1, life, 5)
			p.learn(t, "life", 7, mac(7), at)
			for _, c := range []struct {
				now uint64
				ok  bool
			}{{0, true}, {at / 2, true}, {at, true}, {at + life - 1, true}, {at + life, false}, {at + life + 1, false}, {at + 2*life, false}, {last, false}, {math.MaxUint64, false}} {
				want := place.Mac{}
				if c.ok {
					want = mac(7)
				}
				if m, ok := p.find(t, "life", 7, c.now); m != want || ok != c.ok {
					t.Errorf("life %d, learned at %d, found at %d: %v, %v", life, at, c.now, m, ok)
				}
				swept := p.clone()
				swept.sweep(t, "life", c.now)
				swept.is(t, "life")
				if (swept.cache.Len() == 1) != c.ok {
					t.Errorf("life %d, learned at %d, swept at %d: %d", life, at, c.now, swept.cache.Len())
				}
			}
			p.is(t, "found, and nothing is changed")
		}
	}
}

// P14.2, P14.3: a row is over from the time at which its first token came and the patience on, whenever the others came.
func TestPatience(t *testing.T) {
	for _, patience := range []uint64{1, 2, 10, 1<<31 + 3, longLife - 1, longLife} {
		for _, at := range starts(patience) {
			p := pairOf(t, 3, 5, 7, patience)
			p.waits(t, "patience", 9, 1, at)
			p.waits(t, "patience", 9, 2, at+patience-1)
			p.waits(t, "patience", 9, 3, last)
			p.waits(t, "patience", 9, 4, 0)
			for _, c := range []struct {
				now  uint64
				over bool
			}{{0, false}, {at / 2, false}, {at, false}, {at + patience - 1, false}, {at + patience, true}, {at + patience + 1, true}, {last, true}, {math.MaxUint64, true}} {
				swept := p.clone()
				told := swept.sweep(t, "patience", c.now)
				swept.is(t, "patience")
				if slices.Equal(told, []int{1, 2, 3, 4}) != c.over || (swept.cache.Rows() == 0) != c.over {
					t.Errorf("patience %d, begun at %d, swept at %d: %v", patience, at, c.now, told)
				}
				if told := swept.sweep(t, "patience, again", c.now); len(told) != 0 {
					t.Error("told again", told)
				}
			}
			p.is(t, "nothing is changed")
		}
	}
}

// P14.1, P14.2, P14.3: times that are above the greatest count as that, in each call.
func TestLateTimes(t *testing.T) {
	for _, now := range append(late(), last) {
		p := pairOf(t, 3, 2, 10, 10)
		p.learn(t, "late", 1, mac(1), now)
		p.learn(t, "near", 2, mac(2), last-10)
		p.learn(t, "nearer", 3, mac(3), last-9)
		p.waits(t, "late", 1, 11, now)
		p.waits(t, "near", 2, 12, last-10)
		p.waits(t, "nearer", 3, 13, last-9)
		for _, found := range append(late(), last) {
			if m, ok := p.find(t, "late", 1, found); m != mac(1) || !ok {
				t.Errorf("learned at %d, found at %d: %v, %v", now, found, m, ok)
			}
			if m, ok := p.find(t, "near", 2, found); m != (place.Mac{}) || ok {
				t.Errorf("learned near the end, found at %d: %v, %v", found, m, ok)
			}
			if m, ok := p.find(t, "nearer", 3, found); m != mac(3) || !ok {
				t.Errorf("learned nearer the end, found at %d: %v, %v", found, m, ok)
			}
		}
		p.is(t, "late")
		if told := p.sweep(t, "late", now); !slices.Equal(told, []int{12}) {
			t.Errorf("swept at %d: %v", now, told)
		}
		p.is(t, "late, swept")
		p.sweep(t, "late, swept again", math.MaxUint64)
		if p.cache.Len() != 2 || p.cache.Rows() != 2 {
			t.Errorf("swept at %d: %d entries, %d rows", now, p.cache.Len(), p.cache.Rows())
		}
	}
}

// P14.3: rows that began above the greatest time began at one time, so their Ips order them.
func TestLateRowsAreAlike(t *testing.T) {
	p := pairOf(t, mostRoom, 1, 1, longLife)
	for i, now := range late() {
		p.waits(t, "late", uint32(100-i), i, now)
	}
	p.waits(t, "the greatest", 50, -1, last)
	p.waits(t, "earlier", 200, -2, last-1)
	p.waits(t, "over", 201, -3, last-longLife)
	p.waits(t, "over, too", 1, -4, last-longLife)
	p.is(t, "late")
	if told := p.sweep(t, "late", math.MaxUint64); !slices.Equal(told, []int{-4, -3}) {
		t.Error(told)
	}
	p.is(t, "late, swept")
}

// P14.1: an Ip that is learned anew has its new Mac and its new time, also an earlier one, and was learned last.
func TestLearnAnew(t *testing.T) {
	for _, c := range []struct {
		name string
		mac  place.Mac
		now  uint64
	}{{"the same", mac(1), 100}, {"another Mac", mac(9), 100}, {"later", mac(1), 105}, {"earlier", mac(1), 50}, {"at 0", mac(9), 0}, {"over", mac(9), 110}, {"the last", mac(9), math.MaxUint64}, {"no Mac", place.Mac{}, 101}} {
		for _, ip := range []uint32{1, 2, 3} {
			p := pairOf(t, 3, 1, 10, 10)
			for other := range uint32(3) {
				p.learn(t, "some", other+1, mac(uint64(other+1)), 100)
			}
			p.learn(t, c.name, ip, c.mac, c.now)
			p.is(t, c.name)
			if m, ok := p.find(t, c.name, ip, c.now); m != c.mac || !ok || p.cache.Len() != 3 {
				t.Error(c, m, ok)
			}
			if l := all(p.cache.All()); len(l) != 3 || l[2].ip != ip {
				t.Error(c, "isn't the last", l)
			}
			p.sweep(t, c.name, 110)
			p.is(t, c.name+", swept")
		}
	}
}

// P14.1: with each room, as many are known; with one more the one that was learned longest ago goes.
func TestRoom(t *testing.T) {
	for _, room := range []int{1, 2, 3, 255, mostRoom} {
		p := pairOf(t, room, 1, 1000, 1)
		for i := range room {
			p.learn(t, "room", uint32(i*7), mac(uint64(i)), 100)
			if p.cache.Len() != i+1 {
				t.Error(room, p.cache.Len())
			}
		}
		p.is(t, "full")
		for i := range room {
			p.learn(t, "anew", uint32((room-1-i)*7), mac(uint64(i+1)), 100)
		}
		p.is(t, "all anew")
		for i := range room + 3 {
			p.learn(t, "one more", uint32(1_000_000+i), mac(uint64(i)), 100)
			if i%50 == 0 || i > room-3 {
				p.is(t, "one more")
			}
			if _, ok := p.cache.Find(uint32((room-1-i)*7), 100); i < room && ok {
				t.Error(room, i, "is there still")
			}
		}
		if p.cache.Len() != room {
			t.Error(room, p.cache.Len())
		}
	}
}

// P14.1: it is the order of learning by which one goes, not that of the times, the Ips or the Macs, and not whether one is over.
func TestWhoGoes(t *testing.T) {
	for _, times := range [][4]uint64{{100, 100, 100, 100}, {100, 101, 102, 103}, {103, 102, 101, 100}, {100, 200, 0, 50}, {0, 5, 1000, 1000}, {1000, 0, 0, 2000}, {last, 0, 1, 2}, {math.MaxUint64, last + 1, last, 0}} {
		for _, order := range [][4]uint32{{1, 2, 3, 4}, {4, 3, 2, 1}, {2, 4, 1, 3}, {1 << 31, 1, 0xffffffff, 0}} {
			p := pairOf(t, 3, 1, 10, 1)
			for i, ip := range order {
				p.learn(t, "order", ip, mac(uint64(10-i)), times[i])
				p.is(t, "order")
			}
			if l := all(p.cache.All()); len(l) != 3 || l[0].ip != order[1] || l[1].ip != order[2] || l[2].ip != order[3] {
				t.Error(times, order, l)
			}
			// What was learned longest ago is learned anew: the next one goes.
			p.learn(t, "anew", order[1], mac(20), 0)
			p.learn(t, "one more", order[0], mac(21), 1)
			p.is(t, "anew")
			if l := all(p.cache.All()); len(l) != 3 || l[0].ip != order[3] || l[1].ip != order[1] || l[2].ip != order[0] {
				t.Error(times, order, l)
			}
		}
	}
}

// P14.1: Find, Wait and Clone are no learning: who goes hangs on Learn alone.
func TestFindIsNoLearning(t *testing.T) {
	p := pairOf(t, 2, 3, 10, 10)
	p.learn(t, "one", 1, mac(1), 100)
	p.learn(t, "two", 2, mac(2), 100)
	p.find(t, "one", 1, 105)
	p.waits(t, "one", 1, 5, 105)
	p.cache.Clone()
	p.sweep(t, "nothing is over", 105)
	p.learn(t, "three", 3, mac(3), 100)
	p.is(t, "three")
	if _, ok := p.cache.Find(1, 100); ok {
		t.Error("the one that was learned longest ago is there")
	}
	if !slices.Equal(p.cache.Tokens(), []int{5}) {
		t.Error("its row isn't there", p.cache.Tokens())
	}
}

// P14.1: entries that are over are there, and need room, till they are swept.
func TestOverIsThere(t *testing.T) {
	p := pairOf(t, 3, 1, 10, 10)
	for ip := range uint32(3) {
		p.learn(t, "some", ip, mac(uint64(ip)), 100+uint64(ip))
	}
	p.find(t, "over", 0, 500)
	p.is(t, "over")
	if p.cache.Len() != 3 || len(all(p.cache.All())) != 3 {
		t.Error(p.cache.Len())
	}
	p.learn(t, "one more", 5, mac(5), 500)
	p.is(t, "one more")
	if p.cache.Len() != 3 {
		t.Error(p.cache.Len())
	}
	p.sweep(t, "swept", 111)
	p.is(t, "swept")
	if p.cache.Len() != 2 {
		t.Error(p.cache.Len())
	}
	for ip := range uint32(4) {
		p.learn(t, "room again", 10+ip, mac(uint64(ip)), 500)
		p.is(t, "room again")
	}
}

// P14.1: Learn tells the tokens of its Ip's row alone, once, in order; the row is gone, and may begin anew.
func TestLearnTells(t *testing.T) {
	p := pairOf(t, 3, 4, 10, 10)
	for i, ip := range []uint32{7, 3, 5, 7, 5, 7, 3, 7} {
		p.waits(t, "some", ip, 80-i, 100+uint64(i))
	}
	p.is(t, "some")
	if told := p.learn(t, "none of its own", 4, mac(4), 103); len(told) != 0 {
		t.Error(told)
	}
	p.is(t, "none of its own")
	if told := p.learn(t, "7", 7, mac(7), 103); !slices.Equal(told, []int{80, 77, 75, 73}) {
		t.Error(told)
	}
	p.is(t, "7")
	if told := p.learn(t, "7 again", 7, mac(7), 103); len(told) != 0 {
		t.Error(told)
	}
	p.is(t, "7 again")
	if first, e := p.waits(t, "7 anew", 7, 1, 104); !first || e != api.OK {
		t.Error(first, e)
	}
	p.is(t, "7 anew")
	if !slices.Equal(p.cache.Tokens(), []int{79, 74, 78, 76, 1}) {
		t.Error(p.cache.Tokens())
	}
	if told := p.sweep(t, "7 is over later", 113); !slices.Equal(told, []int{79, 74, 78, 76}) {
		t.Error(told)
	}
	p.is(t, "swept")
	if told := p.sweep(t, "7 is over", 114); !slices.Equal(told, []int{1}) {
		t.Error(told)
	}
	p.is(t, "all swept")
}

// P14.1: a row that is over, and isn't swept, waits still: it is told by Learn, it takes tokens, and it needs room.
func TestRowThatIsOver(t *testing.T) {
	p := pairOf(t, 2, 3, 10, 10)
	p.waits(t, "one", 1, 11, 100)
	p.waits(t, "two", 2, 21, 100)
	if first, e := p.waits(t, "over", 1, 12, 500); first || e != api.OK {
		t.Error(first, e)
	}
	if first, e := p.waits(t, "no room", 3, 31, 500); first || e != api.ErrFull {
		t.Error(first, e)
	}
	p.is(t, "over")
	told := p.clone()
	if l := told.learn(t, "over", 1, mac(1), 500); !slices.Equal(l, []int{11, 12}) {
		t.Error(l)
	}
	told.is(t, "told")
	if l := p.sweep(t, "over", 500); !slices.Equal(l, []int{11, 12, 21}) {
		t.Error(l)
	}
	p.is(t, "swept")
	if first, e := p.waits(t, "room again", 3, 31, 500); !first || e != api.OK {
		t.Error(first, e)
	}
	p.is(t, "room again")
}

// P14.2: a row takes as many tokens as it may, and not one more.
func TestRowIsFull(t *testing.T) {
	for _, wait := range []int{1, 2, 3, 63, mostWait} {
		p := pairOf(t, 2, wait, 10, 10)
		p.waits(t, "another row", 8, -1, 100)
		for i := range wait {
			if first, e := p.waits(t, "room", 9, i*i-5, 100+uint64(i)); first != (i == 0) || e != api.OK {
				t.Error(wait, i, first, e)
			}
			p.is(t, "room")
		}
		for i := range 3 {
			if first, e := p.waits(t, "full", 9, i, 100+uint64(i)*1000); first || e != api.ErrFull {
				t.Error(wait, i, first, e)
			}
			p.is(t, "full")
		}
		swept := p.clone()
		swept.sweep(t, "full", 109)
		swept.is(t, "not over")
		swept.sweep(t, "full", 110)
		swept.is(t, "over")
		p.learn(t, "full", 9, mac(1), 100)
		p.is(t, "told")
		if first, e := p.waits(t, "anew", 9, 1, 200); !first || e != api.OK {
			t.Error(first, e)
		}
		p.is(t, "anew")
	}
}

// P14.2: there are as many rows as there is room for neighbours, and not one more; the rows that are there take tokens still.
func TestRowsAreFull(t *testing.T) {
	for _, room := range []int{1, 2, 3, 255, mostRoom} {
		p := pairOf(t, room, 2, 10, 10)
		for i := range room {
			if first, e := p.waits(t, "room", uint32(room-i)*3, i, 100); !first || e != api.OK {
				t.Error(room, i, first, e)
			}
		}
		p.is(t, "full")
		for _, ip := range []uint32{0, 1, 2, 4, 1 << 31, 0xffffffff} {
			if first, e := p.waits(t, "full", ip, 7, 100); first || e != api.ErrFull {
				t.Error(room, ip, first, e)
			}
		}
		p.is(t, "full still")
		for i := range room {
			if first, e := p.waits(t, "there", uint32(i+1)*3, -i, 500); first || e != api.OK {
				t.Error(room, i, first, e)
			}
			if first, e := p.waits(t, "there, full", uint32(i+1)*3, -i, 500); first || e != api.ErrFull {
				t.Error(room, i, first, e)
			}
		}
		p.is(t, "all full")
		p.learn(t, "one is told", 3, mac(3), 100)
		p.is(t, "one is told")
		if first, e := p.waits(t, "one more", 1, 7, 100); !first || e != api.OK {
			t.Error(room, first, e)
		}
		if first, e := p.waits(t, "two more", 2, 7, 100); first || e != api.ErrFull {
			t.Error(room, first, e)
		}
		p.is(t, "full again")
	}
}

// P14.1, P14.2: entries need no room of rows, nor rows that of entries.
func TestRoomsApart(t *testing.T) {
	p := pairOf(t, 3, 2, 10, 10)
	for i := range uint32(3) {
		p.learn(t, "entries", i, mac(uint64(i)), 100)
	}
	for i := range uint32(3) {
		if first, e := p.waits(t, "rows", 10+i, int(i), 100); !first || e != api.OK {
			t.Error(first, e)
		}
	}
	p.is(t, "both full")
	p.learn(t, "one more", 20, mac(20), 100)
	p.is(t, "one more")
	if p.cache.Len() != 3 || p.cache.Rows() != 3 {
		t.Error(p.cache.Len(), p.cache.Rows())
	}
}

// P14.2: a token waits for an Ip also if its Mac is known, over or not.
func TestWaitForOneThatIsKnown(t *testing.T) {
	p := pairOf(t, 3, 2, 10, 10)
	p.learn(t, "known", 1, mac(1), 100)
	for _, now := range []uint64{100, 500} {
		if first, e := p.waits(t, "known", 1, 5, now); first != (now == 100) || e != api.OK {
			t.Error(first, e)
		}
		p.is(t, "known")
	}
	if told := p.learn(t, "anew", 1, mac(2), 500); !slices.Equal(told, []int{5, 5}) {
		t.Error(told)
	}
	p.is(t, "anew")
}

// P14.2: tokens are any numbers, also one that waits already, in its row or in another one.
func TestTokens(t *testing.T) {
	tokens := []int{0, 0, -1, math.MinInt, math.MaxInt, 5, 1 << 32, 5, 1<<32 + 5, -1, 255, 256, 1 << 63 >> 1, -7}
	p := pairOf(t, 2, mostWait, 10, 10)
	for i, token := range tokens {
		for _, ip := range []uint32{9, 4} {
			if first, e := p.waits(t, "tokens", ip, token, 100); first != (i == 0) || e != api.OK {
				t.Error(token, first, e)
			}
			p.is(t, "tokens")
		}
	}
	if told := p.learn(t, "tokens", 4, mac(4), 100); !slices.Equal(told, tokens) {
		t.Error(told)
	}
	if told := p.sweep(t, "tokens", 110); !slices.Equal(told, tokens) {
		t.Error(told)
	}
}

// P14.3: Sweep tells rows by the times at which they were over first, those of one time by Ips, whatever the order in which they began.
func TestSweepOrder(t *testing.T) {
	rows := []struct {
		ip  uint32
		now uint64
	}{{9, 103}, {0xffffffff, 100}, {1, 105}, {1 << 31, 100}, {3, 100}, {8, 104}, {7, 103}, {0, 105}, {2, 99}, {100, 0}, {5, 103}, {0x7fffffff, 100}}
	want := []uint32{100, 2, 3, 0x7fffffff, 1 << 31, 0xffffffff, 5, 7, 9, 8, 0, 1}
	for turn := range rows {
		p := pairOf(t, 20, 3, 1, 50)
		token := map[uint32]int{}
		for i := range rows {
			r := rows[(i+turn)%len(rows)]
			token[r.ip] = 10 * i
			p.waits(t, "order", r.ip, 10*i, r.now)
		}
		for i := range rows {
			// The others come in another order, and at other times: these tell nothing.
			r := rows[(i*5+turn)%len(rows)]
			p.waits(t, "order", r.ip, token[r.ip]+1, 200-r.now)
			p.waits(t, "order", r.ip, token[r.ip]+2, 0)
		}
		p.is(t, "order")
		var tokens []int
		for _, ip := range want {
			tokens = append(tokens, token[ip], token[ip]+1, token[ip]+2)
		}
		once := p.clone()
		if told := once.sweep(t, "at once", 155); !slices.Equal(told, tokens) {
			t.Errorf("%v; want %v", told, tokens)
		}
		var told []int
		for now := range uint64(157) {
			told = append(told, p.sweep(t, "one by one", now)...)
			p.is(t, "one by one")
		}
		if !slices.Equal(told, tokens) {
			t.Errorf("%v; want %v", told, tokens)
		}
	}
}

// P14.3: Tokens tells rows in the order in which they began, whatever their Ips and times are, and whatever came for them later.
func TestTokensOrder(t *testing.T) {
	p := pairOf(t, mostRoom, 3, 1, 50)
	var want []int
	for i := range mostRoom {
		ip := uint32(i*37+11) % mostRoom << 24 >> uint(i%3*8)
		if p.model.row(ip) >= 0 {
			continue
		}
		p.waits(t, "order", ip, i, 100)
		want = append(want, i)
	}
	p.is(t, "order")
	if !slices.Equal(p.cache.Tokens(), want) {
		t.Error(p.cache.Tokens())
	}
	rows := slices.Clone(p.model.waiting)
	for i := range rows {
		p.waits(t, "second", rows[len(rows)-1-i].ip, -i, 100)
	}
	p.is(t, "second")
	p.learn(t, "the first", rows[0].ip, mac(1), 100)
	p.waits(t, "the first anew", rows[0].ip, 7, 100)
	p.is(t, "the first anew")
	if l := p.cache.Tokens(); l[len(l)-1] != 7 {
		t.Error(l)
	}
}

// P14.3: Sweep takes just the entries and just the rows that are over, each by its own time.
func TestSweepTakesJustWhatIsOver(t *testing.T) {
	p := pairOf(t, 100, 2, 30, 20)
	for i := range uint32(100) {
		p.learn(t, "some", i, mac(uint64(i)), uint64(i*i)%60)
		p.waits(t, "some", 200-i, int(i), uint64(i*i*i)%60)
	}
	for now := range uint64(100) {
		p.sweep(t, "some", now)
		p.is(t, "some")
		p.sweep(t, "again", now)
		p.sweep(t, "earlier", now/2)
		p.is(t, "again")
	}
	if p.cache.Len() != 0 || p.cache.Rows() != 0 || len(p.cache.Tokens()) != 0 {
		t.Error(p.cache.Len(), p.cache.Rows(), p.cache.Tokens())
	}
	for range p.cache.All() {
		t.Error("an entry")
	}
}

// some: a cache that has entries and rows, some of which are over at 120.
func some(t *testing.T) pair {
	p := pairOf(t, 8, 4, 10, 5)
	for i, ip := range []uint32{6, 2, 7, 1, 0xffffffff, 3} {
		p.learn(t, "some", ip, mac(uint64(ip)), 108+uint64(i))
	}
	for i, ip := range []uint32{20, 2, 30, 10} {
		for token := range i + 1 {
			p.waits(t, "some", ip, 10*i+token, 118-uint64(i))
		}
	}
	return p
}

// tellings are calls of every kind, for the cache of some.
func tellings() map[string]func(*testing.T, pair) {
	return map[string]func(*testing.T, pair){
		"nothing":          func(*testing.T, pair) {},
		"Learn":            func(t *testing.T, p pair) { p.learn(t, "Learn", 50, mac(50), 120) },
		"Learn anew":       func(t *testing.T, p pair) { p.learn(t, "Learn anew", 2, mac(51), 90) },
		"Learn of the row": func(t *testing.T, p pair) { p.learn(t, "Learn of the row", 30, mac(52), 120) },
		"Learn of more than there is room for": func(t *testing.T, p pair) {
			for ip := range uint32(12) {
				p.learn(t, "more", 60+ip, mac(uint64(ip)), 120)
			}
		},
		"Wait": func(t *testing.T, p pair) { p.waits(t, "Wait", 30, -5, 120); p.waits(t, "Wait", 40, -6, 100) },
		"Wait of more than there is room for": func(t *testing.T, p pair) {
			for ip := range uint32(12) {
				for token := range 6 {
					p.waits(t, "more", ip*10, token, 117)
				}
			}
		},
		"Sweep":        func(t *testing.T, p pair) { p.sweep(t, "Sweep", 120) },
		"Sweep of all": func(t *testing.T, p pair) { p.sweep(t, "Sweep of all", last) },
		"all": func(t *testing.T, p pair) {
			for i := range uint32(40) {
				p.learn(t, "all", i*i%30, mac(uint64(i)), uint64(100+i))
				p.waits(t, "all", i*i*i%30, int(i), uint64(100+i))
				p.sweep(t, "all", uint64(98+i))
			}
		},
	}
}

// P14.3: All may be gone through twice, and left early at each place; it changes nothing.
func TestAll(t *testing.T) {
	p := some(t)
	want := p.model.entries()
	entries := p.cache.All()
	for range 2 {
		if l := all(entries); !slices.Equal(l, want) {
			t.Errorf("%v; want %v", l, want)
		}
	}
	for count := range len(want) {
		var l []known
		for ip, m := range entries {
			l = append(l, known{ip: ip, mac: m})
			if len(l) == count+1 {
				break
			}
		}
		if !slices.Equal(l, want[:count+1]) {
			t.Errorf("left early: %v; want %v", l, want[:count+1])
		}
		p.is(t, "left early")
	}
	for range pairOf(t, 1, 1, 1, 1).cache.All() {
		t.Error("an entry of none")
	}
	// One within the other: each goes by itself.
	for ip := range entries {
		if l := all(entries); !slices.Equal(l, want) {
			t.Error(ip, l)
		}
	}
}

// P14.3: All tells what there was when it began, whatever is called meanwhile; begun anew it tells what there is then.
func TestAllMeanwhile(t *testing.T) {
	for name, tell := range tellings() {
		for behind := range 6 {
			p := some(t)
			want := p.model.entries()
			entries := p.cache.All()
			var l []known
			for ip, m := range entries {
				if len(l) == behind {
					tell(t, p)
					p.is(t, name+" meanwhile")
				}
				l = append(l, known{ip: ip, mac: m})
			}
			if !slices.Equal(l, want) {
				t.Errorf("%s at %d: %v; want %v", name, behind, l, want)
			}
			if l := all(entries); !slices.Equal(l, p.model.entries()) {
				t.Errorf("%s at %d, begun anew: %v; want %v", name, behind, l, p.model.entries())
			}
		}
	}
}

// P14.3: a cache and its clone go on each by itself, whichever of them is told something.
func TestClone(t *testing.T) {
	for name, tell := range tellings() {
		for next, second := range tellings() {
			p := some(t)
			clone := p.clone()
			if clone.cache == p.cache {
				t.Error("the same cache")
			}
			clone.is(t, name+": the clone")
			tell(t, p)
			clone.is(t, name+" in the cache: the clone")
			p.is(t, name+" in the cache")
			before := clone.clone()
			second(t, clone)
			p.is(t, next+" in the clone: the cache")
			clone.is(t, next+" in the clone")
			before.is(t, next+" in the clone: its own clone")
			for _, q := range []pair{p, clone, before} {
				tellings()["all"](t, q)
				q.is(t, name+", "+next+": the end")
			}
		}
	}
}

// P14.3: the tokens of a row that came behind a clone are the cache's own, in whatever memory the row lies.
func TestClonesAddTokens(t *testing.T) {
	for count := range 20 {
		p := pairOf(t, 2, mostWait, 10, 10)
		for token := range count {
			p.waits(t, "some", 9, token, 100)
		}
		clone := p.clone()
		for i := range 5 {
			p.waits(t, "the cache", 9, 100+i, 100)
			clone.waits(t, "the clone", 9, 200+i, 100)
			p.is(t, "the cache")
			clone.is(t, "the clone")
		}
	}
}

// P14.3: the clone of an empty cache has its bounds, and takes what comes as the cache does.
func TestCloneOfNothing(t *testing.T) {
	p := pairOf(t, 2, 3, 4, 5)
	clone := p.clone()
	for name := range tellings() {
		tellings()[name](t, clone)
		clone.is(t, name)
		p.is(t, "nothing")
	}
}

// P14.1, P14.3: what is answered is new memory: a change of it changes neither the cache, nor its clone, nor another answer.
func TestAnswersAreNew(t *testing.T) {
	for _, name := range []string{"Learn", "Sweep", "Tokens"} {
		p := some(t)
		clone := p.clone()
		answer := func(q pair) []int {
			switch name {
			case "Learn":
				return q.learn(t, name, 10, mac(10), 119)
			case "Sweep":
				return q.sweep(t, name, 121)
			}
			return q.cache.Tokens()
		}
		first := answer(p)
		want := slices.Clone(first)
		other := answer(clone)
		tokens := p.cache.Tokens()
		left := slices.Clone(tokens)
		scribble(first)
		if len(want) < 4 || !slices.Equal(other, want) || !slices.Equal(tokens, left) {
			t.Errorf("%s: %v, %v; want %v, %v", name, other, tokens, want, left)
		}
		p.is(t, name+", changed")
		clone.is(t, name+", changed: the clone")
		scribble(tokens)
		scribble(other)
		p.is(t, name+", changed")
		clone.is(t, name+", changed: the clone")
		for _, ip := range []uint32{2, 10, 20, 30} {
			p.waits(t, name+", changed", ip, 77, 119)
			clone.waits(t, name+", changed", ip, 78, 119)
			p.is(t, name+", changed")
			clone.is(t, name+", changed: the clone")
		}
	}
}

// P14.3: of one row: what is told of it has no part in what the cache has behind it, for each number of tokens.
func TestAnswersOfOneRow(t *testing.T) {
	for count := range 12 {
		p := pairOf(t, 2, mostWait, 10, 10)
		for token := range count {
			p.waits(t, "one row", 9, token, 100)
		}
		scribble(p.cache.Tokens())
		p.is(t, "Tokens, changed")
		p.waits(t, "one row", 9, 50, 100)
		p.is(t, "one more")
		swept := p.clone()
		scribble(swept.sweep(t, "one row", 110))
		swept.waits(t, "anew", 9, 51, 100)
		swept.is(t, "Sweep, changed")
		p.is(t, "the clone's, changed")
		scribble(p.learn(t, "one row", 9, mac(9), 100))
		p.waits(t, "anew", 9, 52, 100)
		p.is(t, "Learn, changed")
		swept.is(t, "the other's, changed")
	}
}

// P14.3: answers stay as they are, whatever becomes of the cache.
func TestAnswersStay(t *testing.T) {
	p := some(t)
	tokens := p.cache.Tokens()
	told := p.learn(t, "stay", 10, mac(10), 119)
	swept := p.sweep(t, "stay", 121)
	kept := [][]int{slices.Clone(tokens), slices.Clone(told), slices.Clone(swept)}
	tellings()["all"](t, p)
	tellings()["Sweep of all"](t, p)
	for i, l := range [][]int{tokens, told, swept} {
		if len(l) == 0 || !slices.Equal(l, kept[i]) {
			t.Errorf("%v; was %v", l, kept[i])
		}
	}
}

// time: a time that a number says, of a kind that it says, too: near now, earlier, far off, or above the greatest.
func time(now, n uint64) uint64 {
	rest := n >> 8
	switch n % 16 {
	case 0, 1, 2, 3, 4, 5, 6, 7:
		return now + rest%4
	case 8, 9, 10, 11:
		return now - min(rest%30, now)
	case 12:
		return rest % 200
	case 13:
		return now + rest%200
	case 14:
		return last - rest%50
	}
	return late()[rest%uint64(len(late()))]
}

// script tells a cache what numbers say, and holds it against what it should have, and its clone, too.
func script(t *testing.T, seed, now uint64, room, wait, hosts int, life, patience uint64, steps, every int) {
	p := pairOf(t, room, wait, life, patience)
	clone := p.clone()
	l := noise(seed, 3*steps)
	for step := range steps {
		n := l[3*step : 3*step+3]
		ip := uint32(n[1] >> 8 % uint64(hosts))
		// Unlike Ips that are alike in many of their bits.
		ip = ip<<28 | ip>>4
		at := time(now, n[2])
		switch n[0] >> 32 % 16 {
		case 0, 1, 2, 3:
			p.learn(t, "script", ip, mac(n[1]), at)
		case 4, 5, 6, 7, 8, 9:
			p.waits(t, "script", ip, int(n[1]>>20%50)-10, at)
		case 10:
			if at < now+50 {
				p.sweep(t, "script", at)
			}
		case 11:
			if n[1]%40 == 0 {
				p.sweep(t, "script", at)
			}
		case 12:
			p.find(t, "script", ip, at)
		case 13, 14:
			now += n[1] >> 40 % 6
		case 15:
			if n[1]%4 != 0 {
				// From here on the clone is told what comes.
				p, clone = clone, p
			} else {
				clone = p.clone()
			}
		}
		if step%every == 0 {
			p.is(t, "script")
			clone.is(t, "script's clone")
		}
	}
	for _, q := range []pair{p, clone} {
		q.is(t, "script's end")
		q.sweep(t, "script's end", now)
		q.is(t, "script's end, swept")
		q.sweep(t, "script's end", math.MaxUint64)
		q.is(t, "script's end, all swept")
	}
}

// P14.1, P14.2, P14.3: rows of calls of every kind, with what the cache has behind each of them.
func TestScripts(t *testing.T) {
	for seed := range uint64(60) {
		script(t, seed, seed*seed*30, int(seed%7+1), int(seed%5+1), int(seed%13+2), seed%40+1, seed%30+1, 500, 1)
	}
	for seed := range uint64(6) {
		script(t, 100+seed, last-200*seed, 5, 4, 9, 20+seed, 30-seed, 500, 1)
	}
	script(t, 1000, 0, mostRoom, mostWait, 400, longLife, longLife, 20_000, 500)
	script(t, 1001, 1<<40, mostRoom, 3, 300, 300, 200, 20_000, 500)
	script(t, 1002, 100, 40, mostWait, 30, 100, 5000, 20_000, 500)
}

// P1: every call ends and none panics, at all arguments, and what is wrong changes nothing.
func TestAnyArguments(t *testing.T) {
	numbers := []int{math.MinInt, math.MinInt + 1, -1 << 32, -257, -1, 0, 1, 2, 64, 65, 256, 257, 1 << 32, math.MaxInt - 1, math.MaxInt}
	times := append(late(), 0, 1, 100, longLife-1, longLife, longLife+1, 1<<60, last-longLife, last-1, last)
	for _, room := range numbers {
		for _, wait := range numbers {
			for _, life := range times {
				c, e := New(room, wait, life, life)
				right := room >= 1 && room <= mostRoom && wait >= 1 && wait <= mostWait && life >= 1 && life <= longLife
				if (c != nil) != right || (e == api.OK) != right || (e == api.ErrRange) == right {
					t.Fatalf("New(%d, %d, %d, %d): %v, %d", room, wait, life, life, c, e)
				}
			}
		}
	}
	for _, long := range []uint64{1, 10, longLife} {
		p := pairOf(t, 3, 2, long, long)
		p.learn(t, "any", 1, mac(1), 100)
		p.waits(t, "any", 1, 5, 100)
		for _, ip := range ips() {
			for _, now := range times {
				v := p.clone()
				for _, token := range numbers {
					v.waits(t, "any", ip, token, now)
				}
				v.find(t, "any", ip, now)
				v.learn(t, "any", ip, mac(uint64(ip)), now)
				v.find(t, "any", ip, now)
				v.waits(t, "any", ip+1, 7, now)
				v.sweep(t, "any", now)
				v.is(t, "any")
			}
		}
		p.is(t, "any")
	}
}

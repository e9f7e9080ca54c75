package wheel

import (
	"math"
	"slices"
	"testing"

	"vizard/api"
)

// The greatest time there is, and the most timers, as the document has them.
const (
	last = uint64(1) << 62
	most = 16_384
)

// noise: numbers without a pattern, the same ones each time.
func noise(seed uint64, count int) []uint64 {
	l := make([]uint64, count)
	for i := range l {
		seed = seed*6364136223846793005 + 1442695040888963407
		l[i] = seed ^ seed>>33
	}
	return l
}

// scribble changes all numbers of an answer, also those of its spare room.
func scribble(l []int) {
	l = l[:cap(l)]
	for i := range l {
		l[i] ^= 0x5a
	}
}

// wrong: times that are above the greatest there is; some wouldn't be, if a part of their bits were left out.
func wrong() []uint64 {
	return []uint64{last + 1, last + 2, last | 1<<32, 3 << 61, 1<<63 - 1, 1 << 63, 1<<63 + 1, 1<<63 | last, 1<<63 | 100, math.MaxUint64 - 1, math.MaxUint64}
}

// numbers: timers' numbers of every kind; some are alike, but for a part of their bits.
func numbers() []int {
	return []int{
		math.MinInt, math.MinInt + 1, -1<<62 - 1, -1 << 32, math.MinInt32, -65_536, -256, -2, -1, 0, 1, 2, 63, 64, 255, 256, 16_383, 16_384, 16_385,
		65_535, 65_536, 1<<31 - 1, 1 << 31, 1<<32 - 1, 1 << 32, 1<<32 + 1, 1 << 62, 1<<62 + 1, math.MaxInt - 1, math.MaxInt,
	}
}

// model is what a wheel should have: its time, and of each timer when it is due.
type model struct {
	now  uint64
	dues map[int]uint64
}

// clone: the same, by itself.
func (m *model) clone() *model {
	c := &model{m.now, map[int]uint64{}}
	for timer, due := range m.dues {
		c.dues[timer] = due
	}
	return c
}

// set: what Set should answer, and what is there behind it.
func (m *model) set(timer int, due uint64) api.Errno {
	if due > last {
		return api.ErrRange
	}
	if _, there := m.dues[timer]; !there && len(m.dues) >= most {
		return api.ErrFull
	}
	m.dues[timer] = due
	return api.OK
}

// goes: what Go should answer, and what is there behind it.
func (m *model) goes(now uint64) ([]int, api.Errno) {
	if now > last {
		return nil, api.ErrRange
	}
	if now < m.now {
		return nil, api.ErrOld
	}
	m.now = now
	var told []int
	for timer, due := range m.dues {
		if due <= now {
			told = append(told, timer)
		}
	}
	slices.SortFunc(told, func(a, b int) int {
		if x, y := m.dues[a], m.dues[b]; x != y {
			a, b = -1, 1
			if x > y {
				a, b = 1, -1
			}
		}
		if a < b {
			return -1
		}
		return 1
	})
	for _, timer := range told {
		delete(m.dues, timer)
	}
	return told, api.OK
}

// next: what Next should answer.
func (m *model) next() (uint64, bool) {
	least, ok := uint64(0), false
	for _, due := range m.dues {
		if !ok || due < least {
			least, ok = due, true
		}
	}
	return least, ok
}

// pair is a wheel, and what it should have.
type pair struct {
	wheel *Wheel
	model *model
}

// pairOf: a new wheel of this time.
func pairOf(t *testing.T, now uint64) pair {
	t.Helper()
	w, e := New(now)
	if w == nil || e != api.OK {
		t.Fatalf("New(%d): %v, %d", now, w, e)
	}
	p := pair{w, &model{now, map[int]uint64{}}}
	p.is(t, "new")
	return p
}

// clone: the same, by itself.
func (p pair) clone() pair {
	return pair{p.wheel.Clone(), p.model.clone()}
}

// set does it in the wheel and in what it should have, and holds the answers against each other.
func (p pair) set(t *testing.T, name string, timer int, due uint64) api.Errno {
	t.Helper()
	want := p.model.set(timer, due)
	if e := p.wheel.Set(timer, due); e != want {
		t.Fatalf("%s: Set(%d, %d): %d; want %d", name, timer, due, e, want)
	}
	return want
}

// cancel is as set.
func (p pair) cancel(t *testing.T, name string, timer int) bool {
	t.Helper()
	_, want := p.model.dues[timer]
	delete(p.model.dues, timer)
	if there := p.wheel.Cancel(timer); there != want {
		t.Fatalf("%s: Cancel(%d): %v; want %v", name, timer, there, want)
	}
	return want
}

// goes is as set.
func (p pair) goes(t *testing.T, name string, now uint64) ([]int, api.Errno) {
	t.Helper()
	from := p.model.now
	want, wantE := p.model.goes(now)
	told, e := p.wheel.Go(now)
	if !slices.Equal(told, want) || e != wantE {
		t.Fatalf("%s: Go(%d) from %d: %v, %d; want %v, %d", name, now, from, told, e, want, wantE)
	}
	return told, e
}

// is holds all that a wheel tells against what it should have.
func (p pair) is(t *testing.T, name string) {
	t.Helper()
	w, m := p.wheel, p.model
	if w.Now() != m.now || w.Len() != len(m.dues) {
		t.Errorf("%s: at %d, %d timers; want at %d, %d", name, w.Now(), w.Len(), m.now, len(m.dues))
	}
	next, ok := w.Next()
	if want, wantOk := m.next(); next != want || ok != wantOk {
		t.Errorf("%s: next at %d, %v; want %d, %v", name, next, ok, want, wantOk)
	}
	for timer, want := range m.dues {
		if due, ok := w.Due(timer); due != want || !ok {
			t.Errorf("%s: timer %d is due at %d, %v; want %d", name, timer, due, ok, want)
		}
	}
	for _, timer := range numbers() {
		want, wantOk := m.dues[timer]
		if due, ok := w.Due(timer); due != want || ok != wantOk {
			t.Errorf("%s: timer %d is due at %d, %v; want %d, %v", name, timer, due, ok, want, wantOk)
		}
	}
}

// edges: times just at and beside those at which many bits of a time change, rising.
func edges() []uint64 {
	times := []uint64{0, 1, 2, 3, 4, 5, 6, 7, 8, 9, last - 2, last - 1, last}
	for bit := 4; bit < 62; bit++ {
		n := uint64(1) << bit
		times = append(times, n-1, n, n+1, n+n/2-1, n+n/2)
	}
	slices.Sort(times)
	return slices.Compact(times)
}

// The chapter's example.
func TestExample(t *testing.T) {
	w, _ := New(0)
	for _, c := range []struct {
		timer int
		due   uint64
	}{{7, 10}, {3, 10}, {5, 9}} {
		if e := w.Set(c.timer, c.due); e != api.OK {
			t.Error(c, e)
		}
	}
	if told, e := w.Go(9); !slices.Equal(told, []int{5}) || e != api.OK {
		t.Error(told, e)
	}
	if told, e := w.Go(12); !slices.Equal(told, []int{3, 7}) || e != api.OK {
		t.Error(told, e)
	}
}

// P13.1: New of every kind of time.
func TestNew(t *testing.T) {
	for _, now := range edges() {
		p := pairOf(t, now)
		if p.wheel.Now() != now || p.wheel.Len() != 0 {
			t.Error(now, p.wheel.Now(), p.wheel.Len())
		}
	}
	for _, now := range wrong() {
		if w, e := New(now); w != nil || e != api.ErrRange {
			t.Errorf("New(%d): %v, %d", now, w, e)
		}
	}
}

// P13.1: a timer is due at any time there is, also at one that is past, and at none that is above the greatest.
func TestSetAtEachTime(t *testing.T) {
	for _, now := range []uint64{0, 1, 100, 4096, 1 << 40, last - 1, last} {
		for _, due := range edges() {
			p := pairOf(t, now)
			if e := p.set(t, "a time", 5, due); e != api.OK {
				t.Errorf("at %d: Set(5, %d): %d", now, due, e)
			}
			p.is(t, "a time")
			if due, ok := p.wheel.Due(6); due != 0 || ok {
				t.Error("another timer is due", due, ok)
			}
		}
		p := pairOf(t, now)
		p.set(t, "there", 5, 70)
		for _, due := range wrong() {
			for _, timer := range []int{5, 6} {
				if e := p.set(t, "wrong", timer, due); e != api.ErrRange {
					t.Errorf("at %d: Set(%d, %d): %d", now, timer, due, e)
				}
				p.is(t, "wrong")
			}
		}
	}
}

// P13.1, P13.2: due below, at and above the wheel's time: what is over is told by the next Go, also by one to the wheel's own time.
func TestSetAroundNow(t *testing.T) {
	for _, now := range []uint64{1, 2, 63, 64, 100, 4095, 4096, 1 << 32, last - 1} {
		for _, c := range []struct {
			due  uint64
			told int
		}{{0, 1}, {now - 1, 1}, {now, 1}, {now + 1, 0}, {last, 0}} {
			p := pairOf(t, now)
			p.set(t, "around", 1, c.due)
			p.is(t, "around")
			clone := p.clone()
			if told, e := p.goes(t, "its own time", now); len(told) != c.told || e != api.OK {
				t.Errorf("at %d, due at %d: %v, %d", now, c.due, told, e)
			}
			p.is(t, "its own time")
			if told, _ := clone.goes(t, "the next time", now+1); len(told) != 1 && c.due != last {
				t.Errorf("at %d, due at %d: %v", now+1, c.due, told)
			}
			clone.is(t, "the next time")
		}
	}
}

// P13.1: a timer that is set anew is due then, and not at its former time, whether it was due earlier or later, and whatever the time is meanwhile.
func TestSetAnew(t *testing.T) {
	times := []uint64{0, 1, 50, 99, 100, 101, 102, 127, 128, 129, 163, 164, 165, 4095, 4096, 1 << 20, 1 << 45, last}
	for _, first := range times {
		for _, second := range times {
			p := pairOf(t, 100)
			p.set(t, "other", 2, 128)
			p.set(t, "first", 1, first)
			p.set(t, "second", 1, second)
			p.is(t, "anew")
			if p.wheel.Len() != 2 {
				t.Errorf("%d, then %d: %d timers", first, second, p.wheel.Len())
			}
			for _, now := range times[4:] {
				p.goes(t, "anew", now)
				p.is(t, "anew, gone on")
			}
			if p.wheel.Len() != 0 {
				t.Errorf("%d, then %d: %d timers are left", first, second, p.wheel.Len())
			}
		}
	}
	p := pairOf(t, 0)
	for k := range uint64(300) {
		p.set(t, "again and again", 1, k+10)
		if told, _ := p.goes(t, "again and again", k); len(told) != 0 {
			t.Error(k, told)
		}
		p.is(t, "again and again")
	}
	p.set(t, "earlier", 1, 300)
	if told, _ := p.goes(t, "earlier", 300); !slices.Equal(told, []int{1}) {
		t.Error(told)
	}
	p.is(t, "earlier")
}

// full: a wheel of the time 1,000 with as many timers as there may be: the even numbers from -100 on.
func full(t *testing.T) pair {
	t.Helper()
	p := pairOf(t, 1000)
	for i := range most {
		p.set(t, "filling", 2*i-100, uint64(i)*uint64(i))
	}
	p.is(t, "full")
	return p
}

// P13.1: so many timers as there may be, one more, and one that is there already.
func TestFull(t *testing.T) {
	p := full(t)
	if p.wheel.Len() != 16_384 {
		t.Error(p.wheel.Len())
	}
	for _, timer := range []int{1, -1, -102, 2*most - 100, math.MinInt, math.MaxInt} {
		for _, due := range []uint64{0, 1000, 1001, last} {
			if e := p.set(t, "one more", timer, due); e != api.ErrFull {
				t.Error(timer, due, e)
			}
		}
		if e := p.set(t, "one more, at no time", timer, last+1); e != api.ErrRange {
			t.Error(timer, e)
		}
	}
	p.is(t, "one more")
	for timer, due := range map[int]uint64{-100: last, 0: 0, 200: 1001, 2*most - 102: 5} {
		if e := p.set(t, "there already", timer, due); e != api.OK {
			t.Error(timer, due, e)
		}
		if e := p.set(t, "there already, at no time", timer, last+1); e != api.ErrRange {
			t.Error(timer, e)
		}
	}
	p.is(t, "there already")
	p.cancel(t, "not there", 1)
	if e := p.set(t, "still full", 1, 5000); e != api.ErrFull {
		t.Error(e)
	}
	p.cancel(t, "one less", 0)
	if e := p.set(t, "room for one", 1, 5000); e != api.OK || p.wheel.Len() != 16_384 {
		t.Error(e, p.wheel.Len())
	}
	if e := p.set(t, "full again", 0, 5000); e != api.ErrFull {
		t.Error(e)
	}
	p.is(t, "full again")
}

// P13.1, P13.2: what is told is gone, and makes room.
func TestRoomByGo(t *testing.T) {
	p := full(t)
	told, _ := p.goes(t, "room", 1000)
	if len(told) == 0 || p.wheel.Len() != most-len(told) {
		t.Fatal(len(told), p.wheel.Len())
	}
	for i := range told {
		if e := p.set(t, "room", 2*i+1, 7000); e != api.OK {
			t.Fatal(i, e)
		}
	}
	if e := p.set(t, "full again", 2*len(told)+1, 7000); e != api.ErrFull {
		t.Error(e)
	}
	p.is(t, "full again")
	if told, _ = p.goes(t, "all", last); len(told) != most || p.wheel.Len() != 0 {
		t.Error(len(told), p.wheel.Len())
	}
	p.is(t, "empty")
	for i := range most {
		p.set(t, "filling again", i, last)
	}
	if e := p.set(t, "full once more", -1, last); e != api.ErrFull {
		t.Error(e)
	}
	p.is(t, "full once more")
}

// P13.1: Cancel and Due of timers that are there, that aren't, and that are no more.
func TestCancel(t *testing.T) {
	p := pairOf(t, 100)
	if p.cancel(t, "nothing", 1) {
		t.Error("a timer of a new wheel is gone")
	}
	dues := []uint64{0, 99, 100, 101, 102, 103, 127, 128, 164, 4096, 1 << 50, last}
	for i, due := range dues {
		p.set(t, "some", i, due)
	}
	for i := range dues {
		if !p.cancel(t, "there", i) || p.cancel(t, "no more", i) {
			t.Error(i)
		}
		if due, ok := p.wheel.Due(i); due != 0 || ok {
			t.Error(i, due, ok)
		}
		p.is(t, "cancelled")
	}
	if told, _ := p.goes(t, "all are cancelled", last); len(told) != 0 {
		t.Error(told)
	}
	p.is(t, "all are cancelled")
	// What is gone may be set anew, and what was told can't be cancelled.
	p = pairOf(t, 0)
	p.set(t, "gone", 1, 8)
	p.cancel(t, "gone", 1)
	p.set(t, "set anew", 1, 9)
	if told, _ := p.goes(t, "its former time", 8); len(told) != 0 {
		t.Error(told)
	}
	if told, _ := p.goes(t, "its time", 9); !slices.Equal(told, []int{1}) || p.cancel(t, "told", 1) {
		t.Error(told)
	}
	p.is(t, "told")
}

// P13.1: a timer that stood far off, and that the time has come near to, is cancelled, or set anew, as any other one.
func TestCancelBehindGo(t *testing.T) {
	for _, due := range edges()[1:] {
		for _, now := range edges() {
			if now >= due {
				break
			}
			p := pairOf(t, 0)
			p.set(t, "far off", 1, due)
			p.set(t, "far off", 2, due)
			p.goes(t, "near", now)
			if !p.cancel(t, "near", 1) {
				t.Errorf("due at %d, at %d: none", due, now)
			}
			p.set(t, "near", 2, now+1)
			p.is(t, "near")
			if told, _ := p.goes(t, "over", now+1); !slices.Equal(told, []int{2}) {
				t.Errorf("due at %d, at %d: %v", now+1, now+1, told)
			}
			if told, _ := p.goes(t, "over", due); len(told) != 0 {
				t.Errorf("due at %d, cancelled at %d: %v", due, now, told)
			}
		}
	}
}

// P13.1: timers of every kind of number are each their own.
func TestEachNumber(t *testing.T) {
	p := pairOf(t, 10)
	for i, timer := range numbers() {
		p.set(t, "each number", timer, uint64(20+i%3))
		p.is(t, "each number")
	}
	clone := p.clone()
	for _, timer := range numbers() {
		if !clone.cancel(t, "each number", timer) {
			t.Error(timer)
		}
		clone.is(t, "each number, cancelled")
	}
	told, _ := p.goes(t, "each number", 22)
	if len(told) != len(numbers()) {
		t.Error(told)
	}
	p.is(t, "each number, told")
}

// P13.2: the errors of Go, and that with them nothing changes.
func TestGoWrong(t *testing.T) {
	for _, now := range []uint64{0, 1, 100, 1 << 40, last} {
		p := pairOf(t, now)
		for i, due := range []uint64{0, 50, 100, 101, 1 << 39, 1 << 41, last} {
			p.set(t, "some", i, due)
		}
		for _, to := range wrong() {
			if told, e := p.goes(t, "wrong", to); len(told) != 0 || e != api.ErrRange {
				t.Errorf("at %d: Go(%d): %v, %d", now, to, told, e)
			}
			p.is(t, "wrong")
		}
		for _, to := range append(edges(), now-1) {
			if to >= now {
				continue
			}
			if told, e := p.goes(t, "old", to); len(told) != 0 || e != api.ErrOld {
				t.Errorf("at %d: Go(%d): %v, %d", now, to, told, e)
			}
			p.is(t, "old")
		}
		if _, e := p.goes(t, "its own time", now); e != api.OK {
			t.Error(now, e)
		}
		p.is(t, "its own time")
		if _, e := p.goes(t, "the greatest", last); e != api.OK || p.wheel.Len() != 0 {
			t.Error(now, e, p.wheel.Len())
		}
		p.is(t, "the greatest")
	}
}

// P13.2: a wheel without timers goes on, and tells nothing.
func TestGoOfNothing(t *testing.T) {
	p := pairOf(t, 0)
	for _, now := range edges() {
		for range 2 {
			if told, e := p.goes(t, "nothing", now); len(told) != 0 || e != api.OK || p.wheel.Now() != now {
				t.Error(now, told, e, p.wheel.Now())
			}
			if next, ok := p.wheel.Next(); next != 0 || ok {
				t.Error(now, next, ok)
			}
		}
	}
	p.is(t, "nothing")
}

// P13.2: timers of one time are told by their numbers, rising, in whatever order they were set, and in how many steps the time comes near.
func TestOneTime(t *testing.T) {
	for _, due := range []uint64{0, 99, 100, 101, 127, 128, 164, 4096, 1 << 33, last} {
		for _, steps := range [][]uint64{{last}, {due}, {due - 1, due}, {due / 2, due - due/4, due}} {
			p := pairOf(t, 64)
			l := numbers()
			for i := range l {
				p.set(t, "one time", l[(i*7)%len(l)], due)
			}
			var told []int
			for _, now := range steps {
				if now >= p.model.now && now <= last {
					got, _ := p.goes(t, "one time", now)
					told = append(told, got...)
				}
			}
			got, _ := p.goes(t, "one time, the end", last)
			if told = append(told, got...); !slices.Equal(told, numbers()) {
				t.Errorf("due at %d, by %v: %v", due, steps, told)
			}
			p.is(t, "one time")
		}
	}
}

// P13.2: timers of many times are told by their times, rising, and each at its time, in one step and in many.
func TestManyTimes(t *testing.T) {
	times := edges()
	filled := func() pair {
		p := pairOf(t, 0)
		for i := range times {
			// The numbers fall where the times rise, and two have one time.
			k := (i * 11) % len(times)
			p.set(t, "many times", -2*k, times[k])
			p.set(t, "many times", -2*k-1, times[k])
		}
		p.is(t, "many times")
		return p
	}
	if len(times)%11 == 0 {
		t.Fatal("not all times are taken")
	}
	p := filled()
	var want []int
	for i, now := range times {
		if next, ok := p.wheel.Next(); next != now || !ok {
			t.Error("next", now, next, ok)
		}
		told, _ := p.goes(t, "each time", now)
		if !slices.Equal(told, []int{-2*i - 1, -2 * i}) {
			t.Errorf("at %d: %v", now, told)
		}
		want = append(want, told...)
		p.is(t, "each time")
	}
	one := filled()
	if told, _ := one.goes(t, "one step", last); !slices.Equal(told, want) {
		t.Error(told)
	}
	for _, first := range times {
		two := filled()
		told, _ := two.goes(t, "first step", first)
		two.is(t, "first step")
		rest, _ := two.goes(t, "second step", last)
		if !slices.Equal(append(told, rest...), want) {
			t.Errorf("by %d: %v, %v", first, told, rest)
		}
	}
}

// P13.2: each tick of many tells just what is due with it, from each time on.
func TestEachTick(t *testing.T) {
	for _, from := range []uint64{0, 1, 63, 64, 4000, 1<<32 - 300, last - 700} {
		p := pairOf(t, from)
		for i := range 400 {
			p.set(t, "ticks", i, from+uint64(i*i)%601)
		}
		for tick := range uint64(610) {
			if from+tick <= last {
				p.goes(t, "ticks", from+tick)
				p.is(t, "ticks")
			}
		}
		if p.wheel.Len() != 0 {
			t.Error(from, p.wheel.Len())
		}
	}
}

// P13.2: Next is the least time of all, whichever timer comes or goes, also if it is over; it changes nothing.
func TestNext(t *testing.T) {
	w, _ := New(100)
	is := func(name string, want uint64, wantOk bool) {
		t.Helper()
		for range 2 {
			if next, ok := w.Next(); next != want || ok != wantOk {
				t.Errorf("%s: %d, %v; want %d, %v", name, next, ok, want, wantOk)
			}
		}
	}
	is("none", 0, false)
	w.Set(1, last)
	is("the greatest", last, true)
	w.Set(2, 4096)
	is("earlier", 4096, true)
	w.Set(3, 4095)
	is("earlier by one", 4095, true)
	w.Set(4, 4097)
	is("a later one", 4095, true)
	w.Set(5, 100)
	is("over", 100, true)
	w.Set(6, 0)
	is("at 0", 0, true)
	w.Set(6, 40)
	is("set later", 40, true)
	w.Cancel(6)
	is("cancelled", 100, true)
	w.Go(100)
	is("told", 4095, true)
	w.Go(4094)
	is("near", 4095, true)
	w.Set(3, 5000)
	is("set later", 4096, true)
	w.Set(2, 6000)
	is("another one", 4097, true)
	w.Go(5999)
	is("far off", 6000, true)
	w.Cancel(2)
	is("the greatest again", last, true)
	w.Go(last)
	is("none again", 0, false)
}

// P13.3: Now and Len, with what comes and goes.
func TestWhatItTells(t *testing.T) {
	w, _ := New(7)
	is := func(name string, now uint64, length int) {
		t.Helper()
		if w.Now() != now || w.Len() != length {
			t.Errorf("%s: at %d, %d timers; want at %d, %d", name, w.Now(), w.Len(), now, length)
		}
	}
	is("new", 7, 0)
	w.Set(1, 9)
	is("one", 7, 1)
	w.Set(1, 8)
	is("set anew", 7, 1)
	w.Set(2, 3)
	is("over", 7, 2)
	w.Set(3, last+1)
	is("not set", 7, 2)
	w.Go(6)
	is("old", 7, 2)
	w.Go(last + 1)
	is("out of range", 7, 2)
	w.Go(7)
	is("its own time", 7, 1)
	w.Cancel(2)
	is("none", 7, 1)
	w.Cancel(1)
	is("cancelled", 7, 0)
	w.Go(last)
	is("the greatest", last, 0)
}

// P13.3: a wheel and its clone go on each by itself, whichever of them is told something.
func TestClone(t *testing.T) {
	for _, c := range []struct {
		name string
		tell func(pair)
	}{
		{"nothing", func(pair) {}},
		{"Set", func(p pair) { p.set(t, "clone", 50, 105) }},
		{"Set, over", func(p pair) { p.set(t, "clone", 50, 3) }},
		{"Set, far off", func(p pair) { p.set(t, "clone", 50, last) }},
		{"Set anew", func(p pair) { p.set(t, "clone", 2, 5000); p.set(t, "clone", 6, 101); p.set(t, "clone", 0, 7) }},
		{"Set, out of range", func(p pair) { p.set(t, "clone", 2, last+1) }},
		{"Cancel", func(p pair) {
			for i := range 8 {
				p.cancel(t, "clone", i)
			}
		}},
		{"Cancel of none", func(p pair) { p.cancel(t, "clone", 50) }},
		{"Go, its own time", func(p pair) { p.goes(t, "clone", 100) }},
		{"Go", func(p pair) { p.goes(t, "clone", 130) }},
		{"Go, far", func(p pair) { p.goes(t, "clone", last) }},
		{"Go, old", func(p pair) { p.goes(t, "clone", 99) }},
		{"Go, out of range", func(p pair) { p.goes(t, "clone", last+1) }},
		{"all", func(p pair) {
			for i := range 40 {
				p.set(t, "clone", i, 100+uint64(i*i))
				p.cancel(t, "clone", i-3)
				p.goes(t, "clone", 100+uint64(i)*30)
			}
		}},
	} {
		p := pairOf(t, 90)
		for i, due := range []uint64{90, 99, 100, 101, 102, 128, 164, 1 << 40} {
			p.set(t, "some", i, due)
		}
		p.goes(t, "some", 100)
		for i, due := range []uint64{50, 99, 100} {
			p.set(t, "over", i, due)
		}
		clone := p.clone()
		if clone.wheel == p.wheel {
			t.Error("the same wheel")
		}
		clone.is(t, c.name+": the clone")
		c.tell(p)
		clone.is(t, c.name+" in the wheel: the clone")
		p.is(t, c.name+" in the wheel")
		before := clone.clone()
		c.tell(clone)
		p.is(t, c.name+" in the clone: the wheel")
		clone.is(t, c.name+" in the clone")
		before.is(t, c.name+" in the clone: its own clone")
		for _, q := range []pair{p, clone, before} {
			q.goes(t, c.name+": the end", last)
			q.is(t, c.name+": the end")
		}
	}
}

// P13.3: the clone of a wheel without timers, and of one of the greatest time, takes timers as the wheel does.
func TestCloneOfNothing(t *testing.T) {
	for _, now := range []uint64{0, 100, last} {
		p := pairOf(t, now)
		clone := p.clone()
		for i, due := range edges() {
			clone.set(t, "clone of nothing", i, due)
		}
		clone.is(t, "clone of nothing")
		p.is(t, "nothing")
		clone.goes(t, "clone of nothing", last)
		p.is(t, "still nothing")
	}
}

// P13.3: what is answered is new memory: a change of it changes neither the wheel, nor its clone, nor another answer.
func TestAnswersAreNew(t *testing.T) {
	p := pairOf(t, 0)
	for i := range 60 {
		p.set(t, "new", i, uint64(i/3))
	}
	clone := p.clone()
	first, _ := p.wheel.Go(5)
	other, _ := clone.wheel.Go(5)
	want := slices.Clone(first)
	scribble(first)
	if !slices.Equal(other, want) {
		t.Errorf("%v: the clone's answer is changed", other)
	}
	p.model.goes(5)
	clone.model.goes(5)
	p.is(t, "changed")
	clone.is(t, "changed: the clone")
	second, _ := p.wheel.Go(9)
	kept := slices.Clone(second)
	scribble(other)
	third, _ := p.wheel.Go(20)
	scribble(third)
	if !slices.Equal(second, kept) {
		t.Errorf("%v: an answer is changed with another one", second)
	}
	clone.goes(t, "changed: the clone", 20)
	p.model.goes(20)
	p.is(t, "changed")
	clone.is(t, "changed: the clone")
}

// P13.3: an answer stays as it is, whatever becomes of the wheel.
func TestAnswersStay(t *testing.T) {
	w, _ := New(0)
	for i := range 20 {
		w.Set(i, 10)
	}
	told, _ := w.Go(10)
	want := slices.Clone(told)
	for i := range 30 {
		w.Set(100+i, 11)
	}
	w.Go(11)
	if len(want) != 20 || !slices.Equal(told, want) {
		t.Error(told)
	}
}

// time: a time that a number says, of a kind that it says, too: near the wheel's, far off, past, at an edge, or wrong.
func (m *model) time(n uint64) uint64 {
	rest := n >> 8
	switch n % 16 {
	case 0, 1, 2, 3:
		return min(m.now+rest%8, last)
	case 4, 5, 6:
		return min(m.now+rest%300, last)
	case 7, 8:
		return min(m.now+rest%(1<<(rest>>50%20)), last)
	case 9, 10:
		return m.now - rest%9%(m.now+1)
	case 11:
		return rest % (m.now + 1)
	case 12:
		return edges()[rest%uint64(len(edges()))]
	case 13:
		return m.now | (1<<(rest%20) - 1)
	case 14:
		return min(m.now>>(rest%20)<<(rest%20)+1<<(rest%20), last)
	}
	return wrong()[rest%uint64(len(wrong()))]
}

// script tells a wheel what numbers say, and holds it against what it should have, and its clone, too.
func script(t *testing.T, seed uint64, now uint64, timers uint64, steps, every int) {
	p := pairOf(t, now)
	clone := p.clone()
	l := noise(seed, 3*steps)
	for step := range steps {
		n := l[3*step : 3*step+3]
		timer := int(n[1]%timers) - int(timers/2)
		switch n[0] >> 32 % 12 {
		case 0, 1, 2, 3, 4, 5:
			p.set(t, "script", timer, p.model.time(n[2]))
		case 6:
			p.cancel(t, "script", timer)
		case 7:
			if next, ok := p.model.next(); ok && next > p.model.now {
				p.goes(t, "script", next-n[2]%2)
			}
		case 8, 9:
			if to := p.model.time(n[2]); to < p.model.now+1<<20 || to > last {
				p.goes(t, "script", to)
			}
		case 10:
			if n[1]%50 == 0 {
				p.goes(t, "script", p.model.time(n[2]))
			}
		case 11:
			if n[1]%4 != 0 {
				// From here on the clone is told what comes.
				p, clone = clone, p
			} else {
				clone = p.clone()
			}
		}
		if step%every == 0 {
			p.is(t, "script")
			clone.is(t, "script's clone")
		}
	}
	p.is(t, "script")
	clone.is(t, "script's clone")
	p.goes(t, "script's end", last)
	clone.goes(t, "script's end", last)
	p.is(t, "script's end")
	clone.is(t, "script's end")
}

// P13.1, P13.2, P13.3: rows of calls of every kind, with what the wheel has behind each of them.
func TestScripts(t *testing.T) {
	starts := []uint64{0, 1, 100, 4090, 1<<32 - 50, 1 << 61, last - 1000, last - 1, last}
	for seed := range uint64(60) {
		script(t, seed, starts[seed%uint64(len(starts))], seed%40+1, 400, 1)
	}
	script(t, 1000, 0, 3000, 20_000, 500)
	script(t, 1001, 1<<40, 40_000, 60_000, 6000)
}

// P1: every call ends and none panics, at all arguments, and what is wrong changes nothing.
func TestAnyArguments(t *testing.T) {
	times := append(edges(), wrong()...)
	p := pairOf(t, 100)
	p.set(t, "any", 1, 150)
	p.set(t, "any", -1, last)
	for _, timer := range numbers() {
		for _, time := range times {
			v := p.clone()
			v.set(t, "any", timer, time)
			v.goes(t, "any", time)
			v.cancel(t, "any", timer)
			v.is(t, "any")
		}
	}
	for _, first := range times {
		for _, second := range wrong() {
			v := p.clone()
			v.goes(t, "any", first)
			v.goes(t, "any", second)
			v.set(t, "any", 2, second)
			v.is(t, "any")
		}
	}
	p.is(t, "any")
}

package timer_test

import (
	"maps"
	"math"
	"runtime"
	"slices"
	"testing"

	"interlock/timer"
)

// telling is which ids have which times, by the chapter's words.
type telling map[int]int

func (l telling) next() (int, bool) {
	least, some := 0, false
	for _, at := range l {
		if !some || at < least {
			least, some = at, true
		}
	}
	return least, some
}

// ahead: does an id with its time come ahead of another one?
func (l telling) ahead(id, other int) bool {
	if l[id] != l[other] {
		return l[id] < l[other]
	}
	return id < other
}

// due: the ids that are due, each put where it belongs; they have no time then.
func (l telling) due(now int) []int {
	var list []int
	for id, at := range l {
		if at <= now {
			list = append(list, id)
		}
	}
	slices.SortFunc(list, func(a, b int) int {
		switch {
		case l.ahead(a, b):
			return -1
		case l.ahead(b, a):
			return 1
		}
		return 0
	})
	for _, id := range list {
		delete(l, id)
	}
	return list
}

// pair is timers, and what is told of them.
type pair struct {
	t *testing.T
	x *timer.Timers
	l telling
}

func fresh(t *testing.T) *pair { return &pair{t, timer.New(), telling{}} }

func (p *pair) set(id, at int) {
	p.x.Set(id, at)
	p.l[id] = at
}

func (p *pair) drop(id int) {
	p.t.Helper()
	_, want := p.l[id]
	if got := p.x.Drop(id); got != want {
		p.t.Fatalf("Drop(%d) is %v, with %v", id, got, p.l)
	}
	delete(p.l, id)
}

func (p *pair) at(id int) {
	p.t.Helper()
	want, some := p.l[id]
	if got, ok := p.x.At(id); got != want || ok != some {
		p.t.Fatalf("At(%d) is %d, %v, with %v", id, got, ok, p.l)
	}
}

func (p *pair) due(now int) {
	p.t.Helper()
	before := maps.Clone(p.l)
	want := p.l.due(now)
	if got := p.x.Due(now); !slices.Equal(got, want) {
		p.t.Fatalf("Due(%d) is %v, not %v, with %v", now, got, want, before)
	}
}

// check: the timers are as told, and so are other ids, which have none.
func (p *pair) check(others ...int) {
	p.t.Helper()
	if n := p.x.Count(); n != len(p.l) {
		p.t.Fatalf("Count is %d, with %v", n, p.l)
	}
	want, some := p.l.next()
	if got, ok := p.x.Next(); got != want || ok != some {
		p.t.Fatalf("Next is %d, %v, with %v", got, ok, p.l)
	}
	for id := range p.l {
		p.at(id)
	}
	for _, id := range others {
		p.at(id)
	}
}

// drain: all timers come, those of each time by a call of their own.
func (p *pair) drain() {
	p.t.Helper()
	for now, ok := p.l.next(); ok; now, ok = p.l.next() {
		if now > math.MinInt {
			p.due(now - 1)
		}
		p.due(now)
		p.check()
	}
	p.check()
	p.due(math.MaxInt)
}

// numbers: ids and times of all kinds, in order.
func numbers() []int {
	return []int{
		math.MinInt, math.MinInt + 1, -1<<32 - 1, -1 << 32, math.MinInt32, -256, -2, -1, 0, 1, 2, 255, 256,
		math.MaxInt32, 1 << 32, 1<<32 + 1, math.MaxInt - 1, math.MaxInt,
	}
}

// permutations: all orders of a list.
func permutations(list []int) [][]int {
	if len(list) == 0 {
		return [][]int{nil}
	}
	var all [][]int
	for i, first := range list {
		for _, rest := range permutations(slices.Delete(slices.Clone(list), i, i+1)) {
			all = append(all, append([]int{first}, rest...))
		}
	}
	return all
}

// dice answers the numbers of a rule, each below the one that it is handed.
func dice(seed uint32) func(n int) int {
	return func(n int) int {
		seed = seed*1664525 + 1013904223
		return int(seed>>16) % n
	}
}

// mixed: the numbers below n in some order.
func mixed(n int, seed uint32) []int {
	list, next := make([]int, n), dice(seed)
	for i := range list {
		list[i] = i
	}
	for i := n - 1; i > 0; i-- {
		j := next(i + 1)
		list[i], list[j] = list[j], list[i]
	}
	return list
}

// P9.1

func TestNew(t *testing.T) {
	p := fresh(t)
	p.check(numbers()...)
	for _, n := range numbers() {
		if p.x.Drop(n) {
			t.Errorf("Drop(%d) is true", n)
		}
		if list := p.x.Due(n); len(list) > 0 {
			t.Errorf("Due(%d) is %v", n, list)
		}
	}
	p.check(numbers()...)
}

func TestSet(t *testing.T) {
	for _, id := range numbers() {
		for _, at := range numbers() {
			x := timer.New()
			x.Set(id, at)
			if got, ok := x.At(id); got != at || !ok {
				t.Errorf("At(%d) is %d, %v, not %d", id, got, ok, at)
			}
			if got, ok := x.Next(); got != at || !ok {
				t.Errorf("Next is %d, %v, not %d", got, ok, at)
			}
			if x.Count() != 1 {
				t.Errorf("Count is %d", x.Count())
			}
			for _, other := range numbers() {
				if got, ok := x.At(other); other != id && (got != 0 || ok) {
					t.Errorf("At(%d) is %d, %v when %d is set", other, got, ok, id)
				}
			}
		}
	}
}

// An id that is set again has the time that was told last, earlier, later or the same, and no other one.
func TestSetAgain(t *testing.T) {
	for _, first := range numbers() {
		for _, second := range numbers() {
			p := fresh(t)
			p.set(5, first)
			p.set(6, 0)
			p.set(5, second)
			p.check(4, 7)
			for _, now := range []int{first, second, math.MaxInt} {
				p.due(now)
				p.check(5, 6)
			}
		}
	}
}

func TestDrop(t *testing.T) {
	x := timer.New()
	x.Set(3, 7)
	x.Set(4, 8)
	for _, c := range []struct {
		id   int
		want bool
	}{{7, false}, {8, false}, {0, false}, {3, true}, {3, false}, {4, true}, {4, false}} {
		if got := x.Drop(c.id); got != c.want {
			t.Errorf("Drop(%d) is %v", c.id, got)
		}
	}
	if _, ok := x.Next(); ok || x.Count() != 0 || len(x.Due(math.MaxInt)) != 0 {
		t.Error("there are timers when all are dropped")
	}
	x.Set(3, 0)
	if at, ok := x.At(3); at != 0 || !ok || x.Count() != 1 {
		t.Errorf("At is %d, %v when one is set again", at, ok)
	}
}

// Of one that was due nothing is left: it isn't there to be dropped, and may be set again.
func TestSetWhenDue(t *testing.T) {
	p := fresh(t)
	p.set(1, 5)
	p.set(2, 6)
	p.due(5)
	p.check(1)
	p.drop(1)
	p.set(1, 9)
	p.check()
	p.set(1, 4)
	p.check()
	p.drain()
}

func TestNext(t *testing.T) {
	p := fresh(t)
	for i, at := range []int{5, 5, 7, -3, math.MaxInt, -3, math.MinInt, 0} {
		p.set(i, at)
		p.check()
	}
	for _, id := range []int{6, 3, 5, 7, 0, 1, 2, 4} {
		p.drop(id)
		p.check(id)
	}
}

// Asking changes nothing.
func TestAskingChangesNothing(t *testing.T) {
	p := fresh(t)
	for i, n := range numbers() {
		p.set(i, n)
	}
	for range 3 {
		p.check(numbers()...)
	}
	p.drain()
}

// Timers that are made twice don't know of one another.
func TestTimersAreApart(t *testing.T) {
	a, b := fresh(t), fresh(t)
	for i := range 20 {
		a.set(i, i)
		b.set(i+10, -i)
	}
	a.drop(15)
	a.due(12)
	a.check(mixed(40, 0)...)
	b.check(mixed(40, 0)...)
	b.drain()
	a.drain()
}

// P9.2

func TestDueExamples(t *testing.T) {
	type one struct{ id, at int }
	for _, c := range []struct {
		set        []one
		now        int
		want, rest []int
	}{
		{[]one{{2, 5}, {1, 5}, {3, 4}}, 5, []int{3, 1, 2}, nil}, // the chapter's
		{[]one{{2, 5}, {1, 5}, {3, 4}}, 4, []int{3}, []int{1, 2}},
		{[]one{{2, 5}, {1, 5}, {3, 4}}, 3, nil, []int{3, 1, 2}},
		{[]one{{2, 5}, {1, 5}, {2, 6}, {3, 5}, {1, 5}}, 5, []int{1, 3}, []int{2}},
		{[]one{{1, 9}, {1, 2}, {2, 2}, {0, 3}}, 2, []int{1, 2}, []int{0}},
		{[]one{{-1, 0}, {1, 0}, {0, 0}, {math.MinInt, 0}, {math.MaxInt, 0}}, 0, []int{math.MinInt, -1, 0, 1, math.MaxInt}, nil},
		{[]one{{0, math.MaxInt}, {1, math.MinInt}, {2, 0}}, math.MinInt, []int{1}, []int{2, 0}},
		{[]one{{0, math.MaxInt}, {1, math.MinInt}, {2, 0}}, math.MaxInt - 1, []int{1, 2}, []int{0}},
		{[]one{{0, math.MaxInt}, {1, math.MinInt}, {2, 0}}, math.MaxInt, []int{1, 2, 0}, nil},
		{[]one{{7, -2}, {8, -1}, {9, -3}}, -2, []int{9, 7}, []int{8}},
		{nil, 5, nil, nil},
	} {
		x := timer.New()
		for _, o := range c.set {
			x.Set(o.id, o.at)
		}
		if got := x.Due(c.now); !slices.Equal(got, c.want) {
			t.Errorf("Due(%d) is %v, not %v, with %v", c.now, got, c.want, c.set)
		}
		for _, id := range c.want {
			if at, ok := x.At(id); at != 0 || ok {
				t.Errorf("At(%d) is %d, %v when it was due", id, at, ok)
			}
		}
		if got := x.Due(c.now); len(got) != 0 || x.Count() != len(c.rest) {
			t.Errorf("Due(%d) again is %v, Count %d", c.now, got, x.Count())
		}
		if got := x.Due(math.MaxInt); !slices.Equal(got, c.rest) {
			t.Errorf("what is left is %v, not %v", got, c.rest)
		}
	}
}

// All ids and times of all kinds, set in all kinds of orders, and asked at all times.
func TestDueAtAllNumbers(t *testing.T) {
	all := numbers()
	for seed := range uint32(20) {
		for _, now := range all {
			p := fresh(t)
			for _, i := range mixed(len(all)*2, seed) {
				p.set(all[i/2], all[(i*7+int(seed))%len(all)])
			}
			p.due(now)
			p.check(all...)
			p.drain()
		}
	}
}

// Of seven timers, set in all orders, each one is dropped, or has each other time.
func TestAllOrders(t *testing.T) {
	for _, order := range permutations([]int{0, 1, 2, 3, 4, 5, 6}) {
		for id := range order {
			for at := range 5 { // 0 to 3: ahead of all, with others, between, behind all; 4: dropped
				p := fresh(t)
				for _, id := range order {
					p.set(id, id/2*4)
				}
				if at == 4 {
					p.drop(id)
				} else {
					p.set(id, at*6-2)
				}
				p.due(5)
				p.due(99)
			}
		}
	}
}

// calls: all lists of so many calls of a few are done, and what they come to is as told.
func calls(t *testing.T, done []func(p *pair), most int, all []func(p *pair)) {
	p := fresh(t)
	for _, call := range done {
		call(p)
	}
	p.check(1, 2, 3)
	if len(done) == most {
		p.drain()
		return
	}
	for _, call := range all {
		calls(t, append(done[:len(done):len(done)], call), most, all)
	}
}

func TestAllCalls(t *testing.T) {
	var all []func(p *pair)
	for id := 1; id < 4; id++ {
		for at := range 3 {
			all = append(all, func(p *pair) { p.set(id, at) })
		}
		all = append(all, func(p *pair) { p.drop(id) })
	}
	for now := range 2 {
		all = append(all, func(p *pair) { p.due(now) })
	}
	calls(t, nil, 4, all)
}

// Many timers that rise, fall, and come mixed; some of them dropped, or set again.
func TestManyTimers(t *testing.T) {
	const n = 3000
	rising := make([]int, n)
	for i := range rising {
		rising[i] = i
	}
	falling := slices.Clone(rising)
	slices.Reverse(falling)
	for _, order := range [][]int{rising, falling, mixed(n, 1), mixed(n, 2)} {
		for _, times := range []int{1, 7, n} {
			p := fresh(t)
			for i, at := range order {
				p.set(i, at%times)
			}
			for i, id := range order {
				if i%3 == 0 {
					p.drop(id)
				}
				if i%5 == 0 {
					p.set(id, (id*11+i)%times)
				}
			}
			p.check()
			for _, now := range []int{-1, times / 3, times / 2, times - 1, times} {
				p.due(now)
			}
			p.check(rising...)
		}
	}
}

// P9.3

// spoil: changes a list, its spare room too.
func spoil(list []int) {
	for i := range list[:cap(list)] {
		list[:cap(list)][i] = -99
	}
}

func TestAnswersAreNew(t *testing.T) {
	p, next := fresh(t), dice(5)
	for i := range 300 {
		p.set(next(40), i+next(30))
		p.l.due(i)
		spoil(p.x.Due(i))
		p.check()
	}
	p.drain()
}

// What was answered stays as it was, whatever the timers do then, and whatever other answers become.
func TestAnswersStay(t *testing.T) {
	p, next := fresh(t), dice(7)
	var got, want [][]int
	for now := range 60 { // many at once, and then few: a list's spare room would do for the next one
		for id := range 1 + next(30)*(now%3) {
			p.set(id, now+id%3)
		}
		got = append(got, p.x.Due(now))
		want = append(want, p.l.due(now))
	}
	for i := range got {
		if !slices.Equal(got[i], want[i]) {
			t.Fatalf("what Due(%d) was is %v now, not %v", i, got[i], want[i])
		}
		spoil(got[i])
	}
	p.drain()
}

// keeps: how many bytes more there are in memory when something is done.
func keeps(do func()) int {
	var before, behind runtime.MemStats
	runtime.GC()
	runtime.ReadMemStats(&before)
	do()
	runtime.GC()
	runtime.ReadMemStats(&behind)
	return int(behind.HeapAlloc) - int(before.HeapAlloc)
}

// Nothing is kept of times that ids had, and of ids that have none: only the timers take room.
func TestNothingIsKept(t *testing.T) {
	const n = 300_000
	for name, change := range map[string]func(x *timer.Timers, i int){
		"set to rise": func(x *timer.Timers, i int) { x.Set(1, i) },
		"set to fall": func(x *timer.Timers, i int) { x.Set(1, -i) },
		"dropped":     func(x *timer.Timers, i int) { x.Set(i, i); x.Drop(i) },
		"due":         func(x *timer.Timers, i int) { x.Set(i, -i); x.Due(-i) },
	} {
		x := timer.New()
		x.Set(-1, math.MaxInt)
		kept := keeps(func() {
			for i := range n {
				change(x, i)
			}
		})
		if kept > 1<<20 {
			t.Errorf("%s: %d bytes are kept", name, kept)
		}
		if x.Count() > 2 {
			t.Errorf("%s: Count is %d", name, x.Count())
		}
	}
}

// P1: all calls end, and none panics, at any arguments; and what they come to is as told.

// walk: calls, of each three bytes the first one tells which, the others with what.
func walk(p *pair, calls []byte) {
	p.t.Helper()
	for len(calls) >= 3 {
		id, n := int(int8(calls[1]))%20, int(int8(calls[2]))
		if calls[0]&8 != 0 {
			n = numbers()[(n+128)%len(numbers())]
		}
		switch calls[0] & 7 {
		case 0, 1, 2, 3:
			p.set(id, n)
		case 4, 5:
			p.drop(id)
		case 6:
			p.due(n)
		case 7:
			p.due(id * 6)
		}
		p.check(id, n)
		calls = calls[3:]
	}
}

func TestManyCalls(t *testing.T) {
	for seed := range uint32(200) {
		next := dice(seed)
		calls := make([]byte, 3*300)
		for i := range calls {
			calls[i] = byte(next(256))
			if i%3 == 0 && seed%2 == 0 && calls[i]&7 > 5 { // fewer come due
				calls[i] &^= 2
			}
		}
		p := fresh(t)
		walk(p, calls)
		p.drain()
	}
}

func FuzzCalls(f *testing.F) {
	f.Add([]byte{0, 2, 5, 1, 1, 5, 2, 3, 4, 6, 0, 5})
	f.Add([]byte{0, 1, 1, 0, 2, 2, 0, 3, 3, 4, 1, 0, 0, 2, 9, 8, 4, 0, 8, 5, 17, 14, 0, 17, 7, 255, 0})
	f.Fuzz(func(t *testing.T, calls []byte) {
		p := fresh(t)
		walk(p, calls[:min(len(calls), 3*300)])
		p.drain()
	})
}

// FuzzNumbers: any ids and times.
func FuzzNumbers(f *testing.F) {
	f.Add(1, 2, 5, 5, 5)
	f.Add(math.MinInt, math.MaxInt, math.MaxInt, math.MinInt, -1)
	f.Add(0, 0, 7, -7, math.MinInt)
	f.Fuzz(func(t *testing.T, id, other, at, later, now int) {
		p := fresh(t)
		for i, x := range []int{id, other, id + other, id ^ other, -id, id} {
			p.set(x, at+i)
			p.check(id, other, at, later)
			p.set(other, later-i)
			p.check(id, other, at, later)
		}
		p.drop(now)
		p.drop(id)
		p.due(now)
		p.check(id, other, now)
		p.drain()
	})
}

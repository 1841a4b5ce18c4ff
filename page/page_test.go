package page_test

import (
	"bytes"
	"math"
	"slices"
	"strings"
	"testing"

	"interlock/page"
)

// slot is what a slot holds: nothing, or some bytes (none, too).
type slot struct {
	taken bool
	s     string
}

func of(s string) slot { return slot{true, s} }

func long(n int) slot { return of(strings.Repeat("L", n)) }

// told: the page of these slots, by the chapter's words; false, if it can't be.
func told(list []slot) ([]byte, bool) {
	if len(list) > 0 && !list[len(list)-1].taken {
		return nil, false
	}
	head, tail := []byte{byte(len(list))}, []byte(nil)
	for _, l := range list {
		if len(l.s) > 200 {
			return nil, false
		}
		mark := 0
		if l.taken {
			mark = len(l.s) + 1
		}
		head = append(head, byte(mark))
	}
	for _, l := range slices.Backward(list) {
		tail = append(tail, l.s...)
	}
	noughts := 256 - len(head) - len(tail)
	if noughts < 0 {
		return nil, false
	}
	return slices.Concat(head, make([]byte, noughts), tail), true
}

// slotsOf: what bytes tell, read from both ends; false, if they aren't just the page of what they tell.
func slotsOf(p []byte) ([]slot, bool) {
	if len(p) != 256 {
		return nil, false
	}
	list := make([]slot, 0, p[0])
	rest := string(p[1:])
	for range int(p[0]) {
		if rest == "" {
			return nil, false
		}
		length := int(rest[0]) - 1
		rest = rest[1:]
		if length < 0 {
			list = append(list, slot{})
			continue
		}
		if length > len(rest) {
			return nil, false
		}
		list = append(list, of(rest[len(rest)-length:]))
		rest = rest[:len(rest)-length]
	}
	again, ok := told(list)
	return list, ok && bytes.Equal(again, p)
}

func putted(list []slot, at int, s string) ([]slot, bool) {
	if at < 0 || at > 250 {
		return nil, false
	}
	list = slices.Clone(list)
	for len(list) <= at {
		list = append(list, slot{})
	}
	list[at] = of(s)
	_, ok := told(list)
	return list, ok
}

func addPlace(list []slot) int {
	at := slices.Index(list, slot{})
	if at < 0 {
		return len(list)
	}
	return at
}

func cutted(list []slot, at int) ([]slot, bool) {
	if at < 0 || at >= len(list) || !list[at].taken {
		return nil, false
	}
	list = slices.Clone(list)
	list[at] = slot{}
	for len(list) > 0 && !list[len(list)-1].taken {
		list = list[:len(list)-1]
	}
	return list, true
}

// roomOf: by trying, as P6.3 says.
func roomOf(list []slot) int {
	for n := 200; n >= 0; n-- {
		if _, ok := putted(list, addPlace(list), strings.Repeat("r", n)); ok {
			return n
		}
	}
	return -1
}

// pages: the slots of pages that can be.
func pages() [][]slot {
	none := slot{}
	list := [][]slot{
		nil,
		{of("")}, {of("a")}, {of("\x00")}, {of("\x00\x00b")}, {of("c\x00")}, {long(199)}, {long(200)},
		{none, of("")}, {none, of("a")}, {none, none, none, of("abc")}, {none, long(200)},
		{of("ab"), of("c")}, {of("c"), of("ab")}, {of(""), of("")}, {of("ab"), of(""), of("xyz")},
		{of("ab"), none, of("c")}, {of("ab"), of("\x00"), none, none, of("c")}, {none, of("a"), none, of("b"), none, of("c")},
		{long(200), long(53)}, {long(53), long(200)}, {long(200), long(52)}, {long(200), long(51)}, {long(200), none, long(52)}, {none, long(52), long(200)}, {long(127), long(126)},
		{long(100), long(50), long(102)}, {long(100), none, long(102)}, {long(200), long(1), long(51)}, {long(200), long(40), none, none, none},
		slices.Repeat([]slot{of("0123456789")}, 23), slices.Repeat([]slot{of("x")}, 127), slices.Repeat([]slot{of("y")}, 126),
	}
	// The greatest numbers of slots: as many as may be put, and as many as a page may have.
	for _, n := range []int{249, 250, 251, 252, 253, 254, 255} {
		all := slices.Repeat([]slot{of("")}, n)
		alone, holed := make([]slot, n), slices.Clone(all)
		alone[n-1], holed[n/2] = of(""), none
		list = append(list, all, alone, holed, slices.Replace(slices.Clone(all), n-2, n-1, none), append(slices.Clone(all[1:]), long(255-n)), append(slices.Clone(alone[1:n-1]), long(255-n), of("")))
	}
	seed := uint32(17)
	next := func(n int) int {
		seed = seed*1664525 + 1013904223
		return int(seed>>16) % n
	}
	for _, most := range []int{1, 3, 10, 40, 100, 201} {
		var grown []slot
		for range 40 {
			if more, ok := putted(grown, next(1+next(30)), strings.Repeat(string([]byte{byte(next(256))}), next(most))); ok {
				grown = more
			}
			if less, ok := cutted(grown, next(1+next(30))); ok && next(3) == 0 {
				grown = less
			}
		}
		list = append(list, grown)
	}
	right := func(l []slot) bool { _, ok := told(l); return ok }
	return slices.DeleteFunc(list, func(l []slot) bool { return !right(l) })
}

func wrongSlots() []int {
	return []int{-1, -2, -250, -256, 251, 252, 255, 256, 257, 511, 512, 1000, math.MinInt, math.MinInt + 1, math.MinInt32, math.MaxInt32, math.MaxInt, math.MaxInt - 1, 1 << 32, 1<<32 + 1, 1 << 8}
}

// checkNothing: all calls answer nothing, as p isn't right.
func checkNothing(t *testing.T, p []byte) {
	t.Helper()
	if page.Right(p) {
		t.Fatalf("Right(%v)", p)
	}
	if n, list := page.Room(p), page.Slots(p); n != 0 || len(list) != 0 {
		t.Fatalf("Room and Slots of %v are %d, %v", p, n, list)
	}
	for _, at := range []int{0, 1, 2, 250, -1, 300} {
		if b, ok := page.Get(p, at); ok || len(b) != 0 {
			t.Fatalf("Get(%v, %d) is %v, %v", p, at, b, ok)
		}
		if q, ok := page.Put(p, at, []byte("a")); ok || len(q) != 0 {
			t.Fatalf("Put(%v, %d) is %v, %v", p, at, q, ok)
		}
		if q, ok := page.Cut(p, at); ok || len(q) != 0 {
			t.Fatalf("Cut(%v, %d) is %v, %v", p, at, q, ok)
		}
	}
	if q, at, ok := page.Add(p, nil); ok || at != 0 || len(q) != 0 {
		t.Fatalf("Add(%v) is %v, %d, %v", p, q, at, ok)
	}
}

// P6.1

func TestNew(t *testing.T) {
	p := page.New()
	if !bytes.Equal(p, make([]byte, 256)) {
		t.Errorf("New is %v", p)
	}
	if !page.Right(p) || page.Room(p) != 200 || len(page.Slots(p)) != 0 {
		t.Error("New isn't a page without slots")
	}
}

func TestRight(t *testing.T) {
	if len(pages()) < 60 {
		t.Error("too few pages:", len(pages()))
	}
	for _, list := range pages() {
		if p, _ := told(list); !page.Right(p) {
			t.Errorf("Right(%v) is false", p)
		}
	}
}

func TestWrongLengths(t *testing.T) {
	checkNothing(t, nil)
	checkNothing(t, []byte{})
	for _, n := range []int{1, 2, 128, 254, 255, 257, 258, 512, 65536} {
		checkNothing(t, make([]byte, n))
	}
	p, _ := told([]slot{of("ab"), of("c")})
	checkNothing(t, p[:255])
	checkNothing(t, p[1:])
	checkNothing(t, append(p, 0))
	checkNothing(t, append([]byte{0}, p...))
	checkNothing(t, append(p, p...))
}

func TestWrongExamples(t *testing.T) {
	for name, change := range map[string]func(p []byte){
		"its last slot is free":           func(p []byte) { p[0] = 3 },
		"a slot is left out":              func(p []byte) { p[0] = 1 },
		"there are no slots, but bytes":   func(p []byte) { p[0] = 0 },
		"not noughts behind the marks":    func(p []byte) { p[3] = 1 },
		"not noughts ahead of the rows":   func(p []byte) { p[252] = 1 },
		"not noughts between":             func(p []byte) { p[100] = 128 },
		"a slot is longer than its bytes": func(p []byte) { p[2] = 1 },
		"a mark of 0 with a byte left":    func(p []byte) { p[1] = 0 },
		"a slot of 201 bytes":             func(p []byte) { p[0], p[1] = 1, 202; clear(p[2:]) },
		"a slot of 253 bytes":             func(p []byte) { p[0], p[1] = 1, 254; clear(p[2:]) },
		"one free slot":                   func(p []byte) { clear(p); p[0] = 1 },
		"255 free slots":                  func(p []byte) { clear(p); p[0] = 255 },
		"more than 256 bytes by one":      func(p []byte) { clear(p); p[0], p[1], p[2] = 2, 201, 55 },
		"more than 256 bytes by much":     func(p []byte) { clear(p); p[0], p[1], p[2], p[3] = 3, 201, 201, 201 },
		"all bytes 255":                   func(p []byte) { copy(p, bytes.Repeat([]byte{255}, 256)) },
		"all bytes 1":                     func(p []byte) { copy(p, bytes.Repeat([]byte{1}, 256)) },
		"all bytes 2":                     func(p []byte) { copy(p, bytes.Repeat([]byte{2}, 256)) },
	} {
		p, _ := told([]slot{of("ab"), of("c")})
		change(p)
		t.Run(name, func(t *testing.T) { checkNothing(t, p) })
	}
}

// checkBytes: right just if it is the page of what it tells.
func checkBytes(t *testing.T, p []byte) {
	t.Helper()
	if _, ok := slotsOf(p); !ok {
		checkNothing(t, p)
	} else if !page.Right(p) {
		t.Fatalf("Right(%v) is false", p)
	}
}

func TestRightNearby(t *testing.T) {
	for _, list := range pages() {
		p, _ := told(list)
		for at, was := range p {
			for _, b := range []byte{0, 1, was - 1, was + 1, was ^ 128, 201, 202, 255} {
				p[at] = b
				if _, ok := slotsOf(p); page.Right(p) != ok {
					t.Fatalf("Right(%v) isn't %v", p, ok)
				}
			}
			p[at] = was
		}
	}
}

func TestRightHeads(t *testing.T) {
	marks := []byte{0, 1, 2, 3, 54, 55, 56, 101, 200, 201, 202, 203, 255}
	for n := range byte(5) {
		for _, a := range marks {
			for _, b := range marks {
				for _, c := range marks {
					for _, from := range []int{4, 204, 253, 254, 255, 256} {
						p := append([]byte{n, a, b, c}, make([]byte, 252)...)
						copy(p[from:], bytes.Repeat([]byte{7}, 256-from))
						checkBytes(t, p)
					}
				}
			}
		}
	}
}

// P6.2

func TestExamples(t *testing.T) {
	p, at, ok := page.Add(page.New(), []byte("ab"))
	if at != 0 || !ok {
		t.Error("Add of ab:", at, ok)
	}
	p, at, ok = page.Add(p, []byte("c"))
	if at != 1 || !ok || !bytes.Equal(p, []byte("\x02\x03\x02"+strings.Repeat("\x00", 250)+"cab")) {
		t.Error("Add of c:", p, at, ok)
	}
	p, ok = page.Put(p, 4, nil)
	if !ok || !bytes.Equal(p, []byte("\x05\x03\x02\x00\x00\x01"+strings.Repeat("\x00", 247)+"cab")) {
		t.Error("Put of nothing:", p, ok)
	}
	if b, ok := page.Get(p, 4); !ok || len(b) != 0 {
		t.Error("Get of nothing:", b, ok)
	}
	p, ok = page.Put(p, 0, []byte("xyz!"))
	if !ok || !bytes.Equal(p, []byte("\x05\x05\x02\x00\x00\x01"+strings.Repeat("\x00", 245)+"cxyz!")) {
		t.Error("Put of more:", p, ok)
	}
	p, ok = page.Cut(p, 4)
	if !ok || !bytes.Equal(p, []byte("\x02\x05\x02"+strings.Repeat("\x00", 248)+"cxyz!")) {
		t.Error("Cut of the last:", p, ok)
	}
	p, ok = page.Cut(p, 0)
	if !ok || !bytes.Equal(p, []byte("\x02\x00\x02"+strings.Repeat("\x00", 252)+"c")) {
		t.Error("Cut of the first:", p, ok)
	}
	p, ok = page.Cut(p, 1)
	if !ok || !bytes.Equal(p, page.New()) {
		t.Error("Cut of all:", p, ok)
	}
}

// checkPut: what Put answers is what the words say.
func checkPut(t *testing.T, list []slot, p []byte, at int, s string) {
	t.Helper()
	var want []byte
	more, can := putted(list, at, s)
	if can {
		want, _ = told(more)
	}
	if q, ok := page.Put(p, at, []byte(s)); ok != can || !bytes.Equal(q, want) {
		t.Fatalf("Put(%v, %d, %q) is %v, %v", p, at, s, q, ok)
	}
}

// checkAdd: what Add answers is Put's answer at the first free slot, and that.
func checkAdd(t *testing.T, list []slot, p []byte, s string) {
	t.Helper()
	var want []byte
	place := addPlace(list)
	more, can := putted(list, place, s)
	if can {
		want, _ = told(more)
	} else {
		place = 0
	}
	if q, at, ok := page.Add(p, []byte(s)); ok != can || at != place || !bytes.Equal(q, want) {
		t.Fatalf("Add(%v, %q) is %v, %d, %v", p, s, q, at, ok)
	}
}

// checkGetAndCut: of a slot.
func checkGetAndCut(t *testing.T, list []slot, p []byte, at int) {
	t.Helper()
	var want []byte
	text := ""
	less, can := cutted(list, at)
	if can {
		want, _ = told(less)
		text = list[at].s
	}
	if q, ok := page.Cut(p, at); ok != can || !bytes.Equal(q, want) {
		t.Fatalf("Cut(%v, %d) is %v, %v", p, at, q, ok)
	}
	if b, ok := page.Get(p, at); ok != can || string(b) != text {
		t.Fatalf("Get(%v, %d) is %q, %v", p, at, b, ok)
	}
}

func checkSlots(t *testing.T, list []slot, p []byte) {
	t.Helper()
	var want []int
	for at, l := range list {
		if l.taken {
			want = append(want, at)
		}
	}
	if got := page.Slots(p); !slices.Equal(got, want) {
		t.Fatalf("Slots(%v) is %v", p, got)
	}
}

func TestAllSlots(t *testing.T) {
	for _, list := range pages() {
		p, _ := told(list)
		checkSlots(t, list, p)
		for at := -3; at < 260; at++ {
			checkGetAndCut(t, list, p, at)
		}
		for _, at := range wrongSlots() {
			checkGetAndCut(t, list, p, at)
		}
	}
}

func TestPut(t *testing.T) {
	for _, list := range pages() {
		p, _ := told(list)
		slots := append(wrongSlots(), 0, 1, 2, 3, 4, 5, 22, 53, 125, 126, 127, 248, 249, 250, len(list)-2, len(list)-1, len(list), len(list)+1)
		for _, at := range slots {
			for _, n := range []int{0, 1, 4, 52, 53, 199, 200, 201, 255, 256, 456} {
				checkPut(t, list, p, at, strings.Repeat("p", n))
			}
		}
	}
}

// The bound of room is the same for each slot that is there or may be.
func TestPutAtTheBound(t *testing.T) {
	all := strings.Repeat("p", 202)
	for _, list := range pages() {
		p, _ := told(list)
		for _, at := range []int{0, len(list) / 2, len(list) - 1, len(list) + 7} {
			for n := range 202 {
				_, can := putted(list, at, all[:n])
				if _, ok := page.Put(p, at, []byte(all[:n])); ok != can {
					t.Fatalf("Put(%v, %d) of %d bytes is %v", p, at, n, ok)
				}
			}
		}
	}
}

func TestAdd(t *testing.T) {
	for _, list := range pages() {
		p, _ := told(list)
		for _, s := range []string{"", "a", "\x00", "\x00\xff", "abc", strings.Repeat("x", 53), strings.Repeat("x", 200), strings.Repeat("x", 201), strings.Repeat("x", 256), strings.Repeat("x", 70000)} {
			checkAdd(t, list, p, s)
		}
	}
}

// Filled and emptied again, a page is as it was, whatever the order.
func TestFillAndEmpty(t *testing.T) {
	for _, n := range []int{0, 1, 5, 30, 120, 200} {
		p, count := page.New(), 0
		for ; page.Room(p) >= n; count++ {
			q, at, ok := page.Add(p, bytes.Repeat([]byte{byte(count)}, n))
			if !ok || at != count {
				t.Fatalf("Add of %d bytes to %v: %d, %v", n, p, at, ok)
			}
			p = q
		}
		if want := min(251, 255/(n+1)); count != want {
			t.Errorf("%d slots of %d bytes", count, n)
		}
		// The first ones, those in the midst, then the others.
		for i := range count {
			at := i * 7 % count
			if count%7 == 0 {
				at = i
			}
			if b, ok := page.Get(p, at); !ok || !bytes.Equal(b, bytes.Repeat([]byte{byte(at)}, n)) {
				t.Fatalf("Get(%v, %d) is %v, %v", p, at, b, ok)
			}
			q, ok := page.Cut(p, at)
			if !ok {
				t.Fatalf("Cut(%v, %d) is false", p, at)
			}
			p = q
		}
		if !bytes.Equal(p, page.New()) {
			t.Errorf("an emptied page is %v", p)
		}
	}
}

// P6.3

func TestRoomExamples(t *testing.T) {
	for _, c := range []struct {
		list []slot
		want int
	}{
		{nil, 200},
		{[]slot{of("")}, 200},
		{[]slot{long(52)}, 200},
		{[]slot{long(53)}, 200},
		{[]slot{long(54)}, 199},
		{[]slot{long(200)}, 53},
		{[]slot{{}, long(200)}, 53},
		{[]slot{long(200), of("")}, 52},
		{[]slot{long(200), long(51)}, 1},
		{[]slot{long(200), long(52)}, 0},
		{[]slot{long(200), long(53)}, -1},
		{[]slot{long(200), {}, long(52)}, 0},
		{[]slot{long(100), long(50), long(102)}, -1},
		{slices.Repeat([]slot{of("")}, 249), 5},
		{slices.Repeat([]slot{of("")}, 250), 4},
		{slices.Repeat([]slot{of("")}, 251), -1},
		{slices.Repeat([]slot{of("")}, 255), -1},
		{append(make([]slot, 250), of("")), 4},
		{append(make([]slot, 254), of("")), 0},
		{append(slices.Repeat([]slot{of("")}, 251), slot{}, of("")), -1},
		{append(slices.Repeat([]slot{of("")}, 250), slot{}, of("")), 3},
	} {
		p, ok := told(c.list)
		if !ok {
			t.Errorf("%v can't be a page", c.list)
		}
		if got := page.Room(p); got != c.want {
			t.Errorf("Room(%v) is %d, not %d", p, got, c.want)
		}
	}
}

func TestRoom(t *testing.T) {
	for _, list := range pages() {
		p, _ := told(list)
		room := page.Room(p)
		if want := roomOf(list); room != want {
			t.Errorf("Room(%v) is %d, not %d", p, room, want)
		}
		for n := range 260 {
			if _, _, ok := page.Add(p, make([]byte, n)); ok != (n <= room) {
				t.Errorf("Add(%v) of %d bytes is %v", p, n, ok)
			}
		}
	}
}

// P6.4

// roomy: bytes with spare room behind them, and all of their memory.
func roomy(b []byte) ([]byte, []byte) {
	memory := append(slices.Clone(b), bytes.Repeat([]byte{77}, 300)...)
	return memory[:len(b)], memory
}

// callAll: each call, with a page that is one or isn't; what they answer is spoilt.
func callAll(p, b []byte) {
	page.Right(p)
	page.Room(p)
	spoil(page.Slots(p))
	q, _, _ := page.Add(p, b)
	spoil(q)
	for _, at := range []int{-1, 0, 1, 2, 3, 4, 250, 251} {
		got, _ := page.Get(p, at)
		spoil(got)
		q, _ = page.Put(p, at, b)
		spoil(q)
		q, _ = page.Cut(p, at)
		spoil(q)
	}
}

// spoil: changes a list, its spare room too.
func spoil[T int | byte](list []T) {
	list = list[:cap(list)]
	for i := range list {
		list[i] = 99
	}
}

func TestHandedInStays(t *testing.T) {
	wrong := bytes.Repeat([]byte{3}, 256)
	for _, list := range append(pages(), nil) {
		right, _ := told(list)
		for _, bytesOfPage := range [][]byte{right, wrong, right[:255], nil} {
			p, memory := roomy(bytesOfPage)
			was := slices.Clone(memory)
			b, bMemory := roomy([]byte("handed"))
			bWas := slices.Clone(bMemory)
			callAll(p, b)
			callAll(p, b[:0])
			// A page's own bytes may be handed in, too.
			callAll(p, p[len(p)/2:])
			callAll(p, memory[:10])
			if !bytes.Equal(memory, was) {
				t.Fatalf("a page was changed: %v", memory)
			}
			if !bytes.Equal(bMemory, bWas) {
				t.Fatalf("bytes were changed: %v", bMemory)
			}
		}
	}
}

func TestOwnBytesArePut(t *testing.T) {
	list := []slot{of("abcdef"), {}, of("xyz")}
	p, _ := told(list)
	for from := 240; from < 256; from++ {
		for to := from; to <= 256; to++ {
			for at := range 5 {
				want, _ := putted(list, at, string(p[from:to]))
				wantBytes, _ := told(want)
				if q, ok := page.Put(p, at, p[from:to]); !ok || !bytes.Equal(q, wantBytes) {
					t.Fatalf("Put at %d of the page's bytes from %d to %d is %v, %v", at, from, to, q, ok)
				}
			}
		}
	}
}

func TestHandedInIsNotKept(t *testing.T) {
	list := []slot{of("ab"), {}, of("c")}
	p, memory := roomy(slices.Concat(first(told(list))))
	b, bMemory := roomy([]byte("new"))
	added, _, _ := page.Add(p, b)
	put, _ := page.Put(p, 0, b)
	cut, _ := page.Cut(p, 2)
	got, _ := page.Get(p, 0)
	slots := page.Slots(p)
	spoil(memory)
	spoil(bMemory)
	wantAdded := first(told([]slot{of("ab"), of("new"), of("c")}))
	wantPut := first(told([]slot{of("new"), {}, of("c")}))
	wantCut := first(told([]slot{of("ab")}))
	if !bytes.Equal(added, wantAdded) || !bytes.Equal(put, wantPut) || !bytes.Equal(cut, wantCut) {
		t.Error("a page keeps what was handed in:", added, put, cut)
	}
	if string(got) != "ab" || !slices.Equal(slots, []int{0, 2}) {
		t.Error("an answer keeps what was handed in:", got, slots)
	}
}

func first(p []byte, _ bool) []byte { return p }

func TestAnswersAreNew(t *testing.T) {
	spoil(page.New())
	if !bytes.Equal(page.New(), make([]byte, 256)) {
		t.Error("New answers the same memory again")
	}
	for _, list := range pages() {
		p, _ := told(list)
		b := []byte("z")
		answers := func() [][]byte {
			added, _, _ := page.Add(p, b)
			put, _ := page.Put(p, len(list), b)
			over, _ := page.Put(p, 0, nil)
			cut, _ := page.Cut(p, len(list)-1)
			got, _ := page.Get(p, len(list)-1)
			return [][]byte{added, put, over, cut, got}
		}
		one, want, slots := answers(), answers(), page.Slots(p)
		for _, other := range answers() {
			spoil(other)
		}
		spoil(page.Slots(p))
		for i, again := range answers() {
			if !bytes.Equal(one[i], want[i]) || !bytes.Equal(again, want[i]) {
				t.Fatalf("answer %d of %v shares memory", i, p)
			}
		}
		if !slices.Equal(slots, page.Slots(p)) {
			t.Fatalf("Slots(%v) shares memory", p)
		}
	}
}

// P1: all calls end, and none panics, at any bytes and slots; and what they answer is as told.

func FuzzBytes(f *testing.F) {
	for _, list := range pages() {
		p, _ := told(list)
		f.Add(p, 1, []byte("abc"))
	}
	f.Add([]byte{}, -1, []byte{})
	f.Add(bytes.Repeat([]byte{255}, 256), 250, make([]byte, 201))
	f.Fuzz(func(t *testing.T, p []byte, at int, b []byte) {
		list, ok := slotsOf(p)
		if !ok {
			checkNothing(t, p)
			page.Get(p, at)
			page.Put(p, at, b)
			page.Cut(p, at)
			page.Add(p, b)
			return
		}
		if room := page.Room(p); !page.Right(p) || room != roomOf(list) {
			t.Fatalf("Room(%v) is %d", p, room)
		}
		checkSlots(t, list, p)
		checkGetAndCut(t, list, p, at)
		checkPut(t, list, p, at, string(b))
		checkAdd(t, list, p, string(b))
	})
}

// FuzzCalls: a page that many calls come to; of each two bytes the first one tells where, the second one what.
func FuzzCalls(f *testing.F) {
	f.Add([]byte{0, 3, 1, 30, 255, 5, 0, 255, 4, 0, 255, 200})
	f.Add(bytes.Repeat([]byte{255, 1}, 260))
	f.Add([]byte{250, 4, 249, 0, 250, 255, 255, 201})
	f.Fuzz(func(t *testing.T, calls []byte) {
		var list []slot
		p := page.New()
		for len(calls) >= 2 {
			at, n := int(calls[0]), int(calls[1])
			s := strings.Repeat(string(calls[1:2]), n)
			calls = calls[2:]
			switch {
			case at == 255:
				checkAdd(t, list, p, s)
				if q, place, ok := page.Add(p, []byte(s)); ok {
					p = q
					list, _ = putted(list, place, s)
				}
			case n == 255:
				checkGetAndCut(t, list, p, at)
				if q, ok := page.Cut(p, at); ok {
					p = q
					list, _ = cutted(list, at)
				}
			default:
				checkPut(t, list, p, at, s)
				if q, ok := page.Put(p, at, []byte(s)); ok {
					p = q
					list, _ = putted(list, at, s)
				}
			}
		}
		checkSlots(t, list, p)
	})
}

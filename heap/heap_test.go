package heap_test

import (
	"bytes"
	"maps"
	"math"
	"slices"
	"strings"
	"testing"

	"interlock/api"
	"interlock/heap"
)

// rows is what a page holds: the bytes of each slot that isn't free.
type rows map[int]string

// slots: how many slots a page needs.
func (r rows) slots() int {
	n := 0
	for slot := range r {
		n = max(n, slot+1)
	}
	return n
}

// can: may there be such a page?
func (r rows) can() bool {
	need := 1 + r.slots()
	for _, s := range r {
		if len(s) > 200 {
			return false
		}
		need += len(s)
	}
	return need <= 256
}

// told: the page's bytes, by layer 6's words.
func (r rows) told() []byte {
	p := make([]byte, 256)
	p[0] = byte(r.slots())
	end := 256
	for slot := range r.slots() {
		if s, ok := r[slot]; ok {
			p[1+slot] = byte(len(s) + 1)
			end -= len(s)
			copy(p[end:], s)
		}
	}
	return p
}

// with: the rows with another one; false, if they can't be.
func (r rows) with(slot int, s string) (rows, bool) {
	if slot < 0 || slot > 250 {
		return nil, false
	}
	more := maps.Clone(r)
	if more == nil {
		more = rows{}
	}
	more[slot] = s
	return more, more.can()
}

// free: the first slot without a row.
func (r rows) free() int {
	for slot := 0; ; slot++ {
		if _, ok := r[slot]; !ok {
			return slot
		}
	}
}

// telling is what a heap holds, by the chapter's words: a list of pages.
type telling []rows

func (l telling) get(at api.Rid) (string, bool) {
	if at.Page < 0 || at.Page >= len(l) {
		return "", false
	}
	s, ok := l[at.Page][at.Slot]
	return s, ok
}

// set: a page has other rows.
func (l telling) set(page int, r rows) telling {
	l = slices.Clone(l)
	for len(l) <= page {
		l = append(l, rows{})
	}
	l[page] = r
	for len(l) > 0 && len(l[len(l)-1]) == 0 {
		l = l[:len(l)-1]
	}
	return l
}

func (l telling) add(s string) (telling, api.Rid, api.Errno) {
	if len(s) > 200 {
		return l, api.Rid{}, api.ErrRange
	}
	for page := range 256 {
		var r rows
		if page < len(l) {
			r = l[page]
		}
		if more, ok := r.with(r.free(), s); ok {
			return l.set(page, more), api.Rid{Page: page, Slot: r.free()}, api.OK
		}
	}
	return l, api.Rid{}, api.ErrFull
}

func (l telling) put(at api.Rid, s string) (telling, api.Errno) {
	if _, ok := l.get(at); !ok {
		return l, api.ErrNone
	}
	more, ok := l[at.Page].with(at.Slot, s)
	if !ok {
		return l, api.ErrFull
	}
	return l.set(at.Page, more), api.OK
}

func (l telling) cut(at api.Rid) (telling, api.Errno) {
	if _, ok := l.get(at); !ok {
		return l, api.ErrNone
	}
	less := maps.Clone(l[at.Page])
	delete(less, at.Slot)
	return l.set(at.Page, less), api.OK
}

func (l telling) restore(at api.Rid, s string) (telling, api.Errno) {
	if _, ok := l.get(at); ok {
		return l, api.ErrThere
	}
	if at.Page < 0 || at.Page > 255 || at.Slot < 0 || at.Slot > 250 {
		return l, api.ErrRange
	}
	var r rows
	if at.Page < len(l) {
		r = l[at.Page]
	}
	more, ok := r.with(at.Slot, s)
	if !ok {
		return l, api.ErrFull
	}
	return l.set(at.Page, more), api.OK
}

func (l telling) all() []api.Rid {
	var list []api.Rid
	for page, r := range l {
		for _, slot := range slices.Sorted(maps.Keys(r)) {
			list = append(list, api.Rid{Page: page, Slot: slot})
		}
	}
	return list
}

func (l telling) pages() [][]byte {
	var list [][]byte
	for _, r := range l {
		list = append(list, r.told())
	}
	return list
}

// check: the heap is as told.
func check(t *testing.T, h *heap.Heap, l telling) {
	t.Helper()
	if got, want := h.Pages(), l.pages(); !slices.EqualFunc(got, want, bytes.Equal) {
		t.Fatalf("Pages are %v, not %v", got, want)
	}
	all := l.all()
	if got := h.All(); !slices.Equal(got, all) {
		t.Fatalf("All is %v, not %v", got, all)
	}
	for _, at := range all {
		want, _ := l.get(at)
		if b, ok := h.Get(at); !ok || string(b) != want {
			t.Fatalf("Get(%v) is %q, %v, not %q", at, b, ok, want)
		}
	}
}

// load: a heap of what is told.
func load(t *testing.T, l telling) *heap.Heap {
	t.Helper()
	h, e := heap.Load(l.pages())
	if e != api.OK || h == nil {
		t.Fatalf("Load of %v: %v", l, e)
	}
	return h
}

func long(n int) string { return strings.Repeat("L", n) }

// alike: a page with rows of so many bytes in its first slots.
func alike(slots, n int) rows {
	r := rows{}
	for slot := range slots {
		r[slot] = strings.Repeat(string([]byte{byte('a' + slot%26)}), n)
	}
	return r
}

// repeated: a heap of like pages.
func repeated(pages int, r rows) telling { return slices.Repeat(telling{r}, pages) }

// heaps: what some heaps hold.
func heaps() []telling {
	full := alike(127, 1) // without room for anything
	list := []telling{
		nil,
		{{0: ""}}, {{0: "a"}}, {{0: "\x00"}}, {{7: "abc"}}, {{0: long(200), 1: long(53)}}, {{250: "1234"}}, {{251: "123"}}, {{254: ""}},
		{{}, {2: "a"}}, {{}, {}, {0: ""}}, {{0: "a"}, {}, {}, {1: "b", 3: "c"}},
		{{0: long(150), 1: long(100)}, {0: long(120), 1: long(100)}},
		{full, full, {0: "x"}}, {full, {}, full}, {{0: long(200)}, {0: long(100)}, {0: long(150)}, {0: long(50)}},
		{alike(250, 0), alike(251, 0), alike(252, 0), alike(255, 0), {0: "z"}},
		{{0: "a", 252: "b"}, {}, {1: "c", 251: ""}},
		repeated(255, rows{0: long(200)}), repeated(256, rows{0: long(200)}), repeated(256, full), repeated(256, rows{1: ""}),
		repeated(256, alike(251, 0)), repeated(256, rows{254: ""}),
		append(slices.Repeat(telling{{}}, 255), rows{0: "last"}),
	}
	seed := uint32(7)
	next := func(n int) int {
		seed = seed*1664525 + 1013904223
		return int(seed>>16) % n
	}
	for _, most := range []int{2, 30, 120, 201} {
		var l telling
		for range 60 {
			l, _, _ = l.add(strings.Repeat(string([]byte{byte(next(256))}), next(most)))
			l, _ = l.restore(api.Rid{Page: next(9), Slot: next(30)}, long(next(most)))
			if all := l.all(); next(3) == 0 {
				l, _ = l.cut(all[next(len(all))])
			}
		}
		list = append(list, l)
	}
	return list
}

// some: at most so many of a list, spread over it, the first and the last among them.
func some[T any](list []T, most int) []T {
	if len(list) <= most {
		return list
	}
	var few []T
	for i := range most {
		few = append(few, list[i*(len(list)-1)/(most-1)])
	}
	return few
}

// numbers: of pages and slots, those that may be and others.
func numbers() []int {
	return []int{0, 1, 2, 3, 5, 7, 8, 30, 126, 127, 249, 250, 251, 252, 253, 254, 255, 256, 257, 511, 512, 65535, 65536, -1, -2, -250, -255, -256, 1 << 32, 1<<32 + 1, -1 << 32, math.MaxInt32, math.MinInt32, math.MaxInt - 1, math.MaxInt, math.MinInt, math.MinInt + 1}
}

// somePlaces: of rows that a heap has, and many others.
func somePlaces(l telling) []api.Rid {
	var list []api.Rid
	for _, page := range numbers() {
		for _, slot := range numbers() {
			list = append(list, api.Rid{Page: page, Slot: slot})
		}
	}
	for _, at := range some(l.all(), 100) {
		list = append(list, at, api.Rid{Page: at.Page, Slot: at.Slot + 1}, api.Rid{Page: at.Page + 1, Slot: at.Slot})
	}
	return list
}

// P7.1

func TestNew(t *testing.T) {
	h := heap.New()
	check(t, h, nil)
	if len(h.Pages()) != 0 || len(h.All()) != 0 || len(h.After(api.Rid{Page: -1}, 5)) != 0 {
		t.Error("New has pages")
	}
	h.Add([]byte("a"))
	check(t, heap.New(), nil)
	check(t, h, telling{{0: "a"}})
}

func TestLoad(t *testing.T) {
	for _, l := range heaps() {
		check(t, load(t, l), l)
	}
	for _, none := range [][][]byte{nil, {}} {
		h, e := heap.Load(none)
		if e != api.OK || h == nil {
			t.Fatal("Load of no pages:", e)
		}
		check(t, h, nil)
	}
}

func TestLoadedAgain(t *testing.T) {
	for _, l := range heaps() {
		h, e := heap.Load(load(t, l).Pages())
		if e != api.OK {
			t.Fatal(e)
		}
		check(t, h, l)
	}
}

// refuse: Load answers nothing but ErrCorrupt.
func refuse(t *testing.T, pages [][]byte) {
	t.Helper()
	if h, e := heap.Load(pages); h != nil || e != api.ErrCorrupt {
		t.Errorf("Load of %d pages: %v, %v", len(pages), h, e)
	}
}

func TestLoadOfTooMany(t *testing.T) {
	for _, n := range []int{257, 258, 300, 512, 70000} {
		refuse(t, repeated(n, rows{0: "a"}).pages())
	}
}

func TestLoadWithoutALastSlot(t *testing.T) {
	for _, n := range []int{0, 1, 2, 254, 255} {
		refuse(t, append(repeated(n, rows{0: "a"}).pages(), rows{}.told()))
		refuse(t, append(repeated(n, rows{}).pages(), rows{}.told()))
	}
}

func TestLoadOfWrongPages(t *testing.T) {
	right := rows{0: "ab", 1: "c"}.told()
	changed := func(at int, b byte) []byte {
		p := bytes.Clone(right)
		p[at] = b
		return p
	}
	for _, wrong := range [][]byte{
		nil, {}, right[:1], right[:255], append(bytes.Clone(right), 0), append(bytes.Clone(right), right...), make([]byte, 255), make([]byte, 257),
		bytes.Repeat([]byte{255}, 256), changed(0, 3), changed(0, 1), changed(0, 0), changed(1, 0), changed(1, 2), changed(1, 255), changed(2, 0), changed(2, 203), changed(3, 1), changed(252, 1), changed(100, 7),
	} {
		refuse(t, [][]byte{wrong})
		refuse(t, [][]byte{wrong, right})
		refuse(t, [][]byte{right, wrong})
		refuse(t, [][]byte{right, wrong, right})
		refuse(t, slices.Insert(repeated(255, rows{0: "a"}).pages(), 200, wrong))
	}
}

// P7.2

func TestAddExamples(t *testing.T) {
	h := heap.New()
	for i, c := range []struct {
		n    int
		want api.Rid
	}{
		{200, api.Rid{}},
		{54, api.Rid{Page: 1}}, // one byte more than page 0 has room for
		{53, api.Rid{Slot: 1}},
		{0, api.Rid{Page: 1, Slot: 1}}, // page 0 hasn't room for no bytes
		{200, api.Rid{Page: 2}},
		{198, api.Rid{Page: 1, Slot: 2}},
		{0, api.Rid{Page: 2, Slot: 1}},
	} {
		if at, e := h.Add(bytes.Repeat([]byte{byte(i)}, c.n)); e != api.OK || at != c.want {
			t.Errorf("Add of %d bytes as number %d: %v, %v", c.n, i, at, e)
		}
	}
	h.Cut(api.Rid{Slot: 0})
	if at, e := h.Add(make([]byte, 200)); e != api.OK || at != (api.Rid{}) {
		t.Error("a slot that is free again isn't used:", at, e)
	}
}

// checkAdd: what Add answers and does is what is told.
func checkAdd(t *testing.T, h *heap.Heap, l telling, s string) telling {
	t.Helper()
	more, want, wantErr := l.add(s)
	if at, e := h.Add([]byte(s)); at != want || e != wantErr {
		t.Fatalf("Add of %d bytes: %v, %v, not %v, %v", len(s), at, e, want, wantErr)
	}
	check(t, h, more)
	return more
}

func TestAdd(t *testing.T) {
	for _, l := range heaps() {
		for _, n := range []int{0, 1, 2, 4, 5, 52, 53, 54, 100, 199, 200, 201, 255, 256, 257, 70000} {
			checkAdd(t, load(t, l), l, long(n))
		}
	}
}

func TestAddTooMany(t *testing.T) {
	for _, l := range []telling{nil, {{0: "a"}}, repeated(256, rows{0: long(200)}), repeated(256, alike(127, 1))} {
		for _, n := range []int{201, 202, 253, 254, 255, 256, 1 << 20} {
			h := load(t, l)
			if at, e := h.Add(make([]byte, n)); e != api.ErrRange || at != (api.Rid{}) {
				t.Errorf("Add of %d bytes: %v, %v", n, at, e)
			}
			check(t, h, l)
		}
	}
}

// A heap that is filled has 256 pages; smaller rows still find the room that is left, the first page's first.
func TestFill(t *testing.T) {
	h, l := heap.New(), telling(nil)
	for page := range 256 {
		if at, e := h.Add([]byte(long(200))); e != api.OK || at != (api.Rid{Page: page}) {
			t.Fatal(page, at, e)
		}
		l = append(l, rows{0: long(200)})
	}
	check(t, h, l)
	for _, n := range []int{54, 200} {
		if at, e := h.Add(make([]byte, n)); e != api.ErrFull || at != (api.Rid{}) {
			t.Errorf("Add of %d bytes to 256 pages: %v, %v", n, at, e)
		}
	}
	check(t, h, l)
	for page := range 256 {
		if at, e := h.Add([]byte(long(53))); e != api.OK || at != (api.Rid{Page: page, Slot: 1}) {
			t.Fatal(page, at, e)
		}
		l[page] = rows{0: long(200), 1: long(53)}
	}
	if at, e := h.Add(nil); e != api.ErrFull || at != (api.Rid{}) {
		t.Errorf("Add of no bytes to 256 full pages: %v, %v", at, e)
	}
	check(t, h, l)
	h.Cut(api.Rid{Page: 255, Slot: 1})
	if at, e := h.Add(nil); e != api.OK || at != (api.Rid{Page: 255, Slot: 1}) {
		t.Error("the last page's room isn't used:", at, e)
	}
}

func TestGet(t *testing.T) {
	for _, l := range heaps() {
		h := load(t, l)
		for _, at := range somePlaces(l) {
			want, can := l.get(at)
			if b, ok := h.Get(at); ok != can || string(b) != want || !ok && b != nil {
				t.Fatalf("Get(%v) is %q, %v, not %q, %v", at, b, ok, want, can)
			}
		}
		check(t, h, l)
	}
}

func TestGetOfNoBytes(t *testing.T) {
	h := heap.New()
	at, e := h.Add(nil)
	if b, ok := h.Get(at); e != api.OK || !ok || len(b) != 0 {
		t.Error("a row of no bytes:", b, ok, e)
	}
}

// checkPut: what Put answers and does is what is told.
func checkPut(t *testing.T, h *heap.Heap, l telling, at api.Rid, s string) telling {
	t.Helper()
	more, want := l.put(at, s)
	if e := h.Put(at, []byte(s)); e != want {
		t.Fatalf("Put(%v) of %d bytes is %v, not %v", at, len(s), e, want)
	}
	if want == api.OK {
		check(t, h, more)
	}
	return more
}

func TestPut(t *testing.T) {
	for _, l := range heaps() {
		for i, at := range some(l.all(), 20) {
			lengths := []int{0, 1, 3, 4, 5, 52, 53, 54, 100, 199, 200, 201, 256, 70000}
			if len(l) > 20 { // each check takes its time
				lengths = []int{i, 201}
			}
			for _, n := range lengths {
				checkPut(t, load(t, l), l, at, long(n))
			}
		}
	}
}

// The first row of a page may grow up to what the others leave.
func TestPutAtTheBound(t *testing.T) {
	l := telling{{0: "a"}, {0: "a", 1: long(100), 5: long(50)}, {0: "x"}}
	for n := range 202 {
		h := load(t, l)
		e := h.Put(api.Rid{Page: 1}, make([]byte, n))
		if ok := n <= 256-1-6-150; (e == api.OK) != ok || !ok && e != api.ErrFull {
			t.Errorf("Put of %d bytes: %v", n, e)
		}
		if e = h.Put(api.Rid{}, make([]byte, n)); (e == api.OK) != (n <= 200) {
			t.Errorf("Put of %d bytes in a page alone: %v", n, e)
		}
	}
}

func TestPutWhereNoneIs(t *testing.T) {
	for _, l := range heaps() {
		h := load(t, l)
		for _, at := range somePlaces(l) {
			if _, ok := l.get(at); ok {
				continue
			}
			for _, n := range []int{0, 1, 201, 300} {
				if e := h.Put(at, make([]byte, n)); e != api.ErrNone {
					t.Fatalf("Put(%v) is %v", at, e)
				}
			}
			if e := h.Cut(at); e != api.ErrNone {
				t.Fatalf("Cut(%v) is %v", at, e)
			}
		}
		check(t, h, l)
	}
}

// Slots above 250 may be loaded, read and cut, but layer 6 doesn't put them.
func TestGreatestSlots(t *testing.T) {
	l := telling{{0: "a", 251: "b"}, {254: ""}}
	h := load(t, l)
	for _, at := range []api.Rid{{Slot: 251}, {Page: 1, Slot: 254}} {
		if e := h.Put(at, nil); e != api.ErrFull {
			t.Errorf("Put(%v) is %v", at, e)
		}
		if e := h.Restore(at, nil); e != api.ErrThere {
			t.Errorf("Restore(%v) is %v", at, e)
		}
	}
	check(t, h, l)
	if e := h.Cut(api.Rid{Page: 1, Slot: 254}); e != api.OK {
		t.Error(e)
	}
	check(t, h, l[:1])
	if e := h.Cut(api.Rid{Slot: 251}); e != api.OK {
		t.Error(e)
	}
	check(t, h, telling{{0: "a"}})
	if e := h.Restore(api.Rid{Slot: 251}, []byte("b")); e != api.ErrRange {
		t.Error(e)
	}
}

func TestCutExamples(t *testing.T) {
	h := load(t, telling{{0: "a"}, {}, {1: "b", 3: "c"}, {}, {0: "d"}})
	for _, c := range []struct {
		at   api.Rid
		want telling
	}{
		{api.Rid{Page: 2, Slot: 3}, telling{{0: "a"}, {}, {1: "b"}, {}, {0: "d"}}},
		{api.Rid{}, telling{{}, {}, {1: "b"}, {}, {0: "d"}}}, // not at the end: the page stays
		{api.Rid{Page: 4}, telling{{}, {}, {1: "b"}}},
		{api.Rid{Page: 2, Slot: 1}, nil},
	} {
		if e := h.Cut(c.at); e != api.OK {
			t.Fatal(c.at, e)
		}
		check(t, h, c.want)
		if e := h.Cut(c.at); e != api.ErrNone {
			t.Error("cut again:", c.at, e)
		}
		if b, ok := h.Get(c.at); ok || b != nil {
			t.Error("it isn't gone:", c.at, b)
		}
	}
}

func TestCut(t *testing.T) {
	for _, l := range heaps() {
		for _, at := range some(l.all(), 12) {
			h := load(t, l)
			less, _ := l.cut(at)
			if e := h.Cut(at); e != api.OK {
				t.Fatalf("Cut(%v) is %v", at, e)
			}
			check(t, h, less)
		}
	}
}

// All rows are cut, from the front, from the end and from the midst; what is added then begins anew.
func TestCutOfAll(t *testing.T) {
	for _, l := range heaps() {
		all := l.all()
		if len(all) > 2000 { // they take their time
			continue
		}
		for _, pick := range []func(n int) int{func(int) int { return 0 }, func(n int) int { return n - 1 }, func(n int) int { return n / 2 }} {
			h := load(t, l)
			for left := slices.Clone(all); len(left) > 0; {
				i := pick(len(left))
				if e := h.Cut(left[i]); e != api.OK {
					t.Fatalf("Cut(%v) is %v", left[i], e)
				}
				left = slices.Delete(left, i, i+1)
				end := 0
				for _, at := range left {
					end = max(end, at.Page+1)
				}
				if len(h.Pages()) != end {
					t.Fatalf("%d pages, not %d", len(h.Pages()), end)
				}
			}
			check(t, h, nil)
			checkAdd(t, h, nil, "anew")
		}
	}
}

// P7.3

func TestRestoreExample(t *testing.T) {
	h := heap.New()
	at, _ := h.Add([]byte("a"))
	h.Cut(at)
	if e := h.Restore(api.Rid{Page: 1, Slot: 2}, []byte("a")); e != api.OK {
		t.Error(e)
	}
	check(t, h, telling{{}, {2: "a"}})
	if at, e := h.Add([]byte("b")); e != api.OK || at != (api.Rid{}) {
		t.Error("an empty page isn't used:", at, e)
	}
}

// checkRestore: what Restore answers and does is what is told.
func checkRestore(t *testing.T, h *heap.Heap, l telling, at api.Rid, s string) telling {
	t.Helper()
	more, want := l.restore(at, s)
	if e := h.Restore(at, []byte(s)); e != want {
		t.Fatalf("Restore(%v) of %d bytes is %v, not %v", at, len(s), e, want)
	}
	if want == api.OK {
		check(t, h, more)
	}
	return more
}

func TestRestore(t *testing.T) {
	for _, l := range heaps() {
		h, places := load(t, l), somePlaces(l)
		if len(l) > 20 { // each check takes its time
			places = some(places, 100)
		}
		for i, at := range places {
			for _, n := range []int{i % 5, 53 + i%100, 201} {
				_, was := l.get(at)
				if _, is := checkRestore(t, h, l, at, long(n)).get(at); is && !was {
					h = load(t, l)
				}
			}
		}
		check(t, h, l)
	}
}

// Of several errors the one that is named first.
func TestRestoreErrors(t *testing.T) {
	l := telling{{0: "ab", 252: ""}, {0: long(53), 1: long(100)}}
	for _, c := range []struct {
		at   api.Rid
		n    int
		want api.Errno
	}{
		{api.Rid{}, 0, api.ErrThere},
		{api.Rid{}, 300, api.ErrThere},
		{api.Rid{Slot: 252}, 300, api.ErrThere},
		{api.Rid{Slot: 251}, 300, api.ErrRange},
		{api.Rid{Page: 1, Slot: 251}, 0, api.ErrRange},
		{api.Rid{Page: 1, Slot: -1}, 0, api.ErrRange},
		{api.Rid{Page: -1}, 0, api.ErrRange},
		{api.Rid{Page: 256}, 201, api.ErrRange},
		{api.Rid{Page: 255, Slot: 251}, 0, api.ErrRange},
		{api.Rid{Page: math.MinInt, Slot: math.MinInt}, 0, api.ErrRange},
		{api.Rid{Page: math.MaxInt, Slot: math.MaxInt}, 0, api.ErrRange},
		{api.Rid{Slot: 250}, 1, api.ErrFull},
		{api.Rid{Slot: 250}, 0, api.OK},
		{api.Rid{Page: 1, Slot: 2}, 100, api.ErrFull},
		{api.Rid{Page: 1, Slot: 2}, 99, api.OK},
		{api.Rid{Page: 1, Slot: 101}, 1, api.ErrFull},
		{api.Rid{Page: 1, Slot: 101}, 0, api.OK},
		{api.Rid{Page: 1, Slot: 250}, 0, api.ErrFull},
		{api.Rid{Page: 2}, 201, api.ErrFull},
		{api.Rid{Page: 2}, 200, api.OK},
		{api.Rid{Page: 255, Slot: 250}, 5, api.ErrFull},
		{api.Rid{Page: 255, Slot: 250}, 4, api.OK},
	} {
		h := load(t, l)
		if e := h.Restore(c.at, make([]byte, c.n)); e != c.want {
			t.Errorf("Restore(%v) of %d bytes is %v, not %v", c.at, c.n, e, c.want)
		}
		if c.want != api.OK {
			check(t, h, l)
		}
	}
}

// What is cut and restored, all of it, in another order, comes to the same.
func TestCutAndRestored(t *testing.T) {
	for _, l := range heaps() {
		h, all := load(t, l), l.all()
		top := func(at api.Rid) bool { return at.Slot > 250 }
		if slices.ContainsFunc(all, top) {
			continue
		}
		for _, at := range all {
			h.Cut(at)
		}
		for i := range all {
			at := all[(i*7+3)%len(all)]
			if len(all)%7 == 0 {
				at = all[len(all)-1-i]
			}
			s, _ := l.get(at)
			if e := h.Restore(at, []byte(s)); e != api.OK {
				t.Fatalf("Restore(%v) is %v", at, e)
			}
		}
		check(t, h, l)
	}
}

// P7.4

// behind: by the words, the places of a list behind one, at most so many.
func behind(all []api.Rid, at api.Rid, most int) []api.Rid {
	var list []api.Rid
	for _, a := range all {
		if (a.Page > at.Page || a.Page == at.Page && a.Slot > at.Slot) && len(list) < most {
			list = append(list, a)
		}
	}
	return list
}

func TestAfter(t *testing.T) {
	for _, l := range heaps() {
		h, all, places := load(t, l), l.all(), somePlaces(l)
		if len(l) > 20 { // they take their time
			places = some(places, 30)
		}
		for i, at := range places {
			for _, m := range []int{0, 1, 2, 3, i % 300, len(all) - 1, len(all), len(all) + 1, -1, math.MinInt, math.MaxInt} {
				if got, want := h.After(at, m), behind(all, at, m); !slices.Equal(got, want) {
					t.Fatalf("After(%v, %d) is %v, not %v", at, m, got, want)
				}
			}
		}
	}
}

func TestAfterExamples(t *testing.T) {
	h := load(t, telling{{1: "a", 4: "b"}, {}, {0: "c"}})
	a, b, c := api.Rid{Slot: 1}, api.Rid{Slot: 4}, api.Rid{Page: 2}
	for _, x := range []struct {
		at   api.Rid
		most int
		want []api.Rid
	}{
		{api.Rid{}, 9, []api.Rid{a, b, c}},
		{api.Rid{}, 2, []api.Rid{a, b}},
		{a, 9, []api.Rid{b, c}},
		{a, 1, []api.Rid{b}},
		{api.Rid{Slot: 2}, 9, []api.Rid{b, c}},
		{b, 9, []api.Rid{c}},
		{api.Rid{Slot: 250}, 9, []api.Rid{c}},
		{api.Rid{Page: 1}, 9, []api.Rid{c}},
		{api.Rid{Page: 1, Slot: 77}, 9, []api.Rid{c}},
		{api.Rid{Page: 2, Slot: -1}, 9, []api.Rid{c}},
		{c, 9, nil},
		{api.Rid{Page: 3, Slot: -5}, 9, nil},
		{api.Rid{Page: -1, Slot: math.MaxInt}, 9, []api.Rid{a, b, c}},
		{api.Rid{Slot: math.MaxInt}, 9, []api.Rid{c}},
		{api.Rid{}, 0, nil},
		{api.Rid{}, -3, nil},
	} {
		if got := h.After(x.at, x.most); !slices.Equal(got, x.want) {
			t.Errorf("After(%v, %d) is %v, not %v", x.at, x.most, got, x.want)
		}
	}
}

// Gone over piece by piece, all places come out once, each.
func TestAfterPieceByPiece(t *testing.T) {
	for _, l := range heaps() {
		h, all := load(t, l), l.all()
		for _, most := range []int{1 + len(all)/70, 333} {
			var list []api.Rid
			at := api.Rid{Page: -1}
			for piece := h.After(at, most); len(piece) > 0 && len(list) <= len(all); piece = h.After(at, most) {
				list = append(list, piece...)
				at = piece[len(piece)-1]
			}
			if !slices.Equal(list, all) {
				t.Fatalf("piece by piece: %v, not %v", list, all)
			}
		}
	}
}

// P7.5

func TestErrorsChangeNothing(t *testing.T) {
	for _, l := range heaps() {
		h := load(t, l)
		h.Add(make([]byte, 201))
		h.Restore(api.Rid{Page: 255, Slot: 250}, make([]byte, 201))
		h.Restore(api.Rid{Page: 255, Slot: 249}, make([]byte, 6))
		h.Restore(api.Rid{Page: 256}, nil)
		h.Restore(api.Rid{Page: len(l), Slot: 251}, nil)
		h.Restore(api.Rid{Page: len(l), Slot: -1}, nil)
		h.Restore(api.Rid{Page: len(l) + 1}, make([]byte, 256))
		h.Cut(api.Rid{Page: len(l)})
		h.Put(api.Rid{Page: len(l)}, []byte("a"))
		for _, at := range some(l.all(), 50) {
			h.Restore(at, []byte("other"))
			h.Put(at, make([]byte, 201))
			h.Put(api.Rid{Page: at.Page, Slot: at.Slot + 300}, nil)
			h.Cut(api.Rid{Page: at.Page, Slot: -1})
		}
		check(t, h, l)
	}
}

// roomy: bytes with spare room behind them, and all of their memory.
func roomy(b []byte) ([]byte, []byte) {
	memory := append(slices.Clone(b), bytes.Repeat([]byte{77}, 300)...)
	return memory[:len(b)], memory
}

// spoil: changes a list, its spare room too.
func spoil(b []byte) {
	b = b[:cap(b)]
	for i := range b {
		b[i] = 99
	}
}

func TestPagesHandedIn(t *testing.T) {
	for _, l := range heaps() {
		var pages, memories, were [][]byte
		for _, p := range l.pages() {
			p, memory := roomy(p)
			pages, memories, were = append(pages, p), append(memories, memory), append(were, slices.Clone(memory))
		}
		spare := append(slices.Clone(pages), []byte("spare"))
		h, e := heap.Load(spare[:len(pages)])
		if e != api.OK {
			t.Fatal(e)
		}
		changed := checkAdd(t, h, l, "more")
		changed = checkRestore(t, h, changed, api.Rid{Page: 20, Slot: 9}, "more")
		for i, memory := range memories {
			if !bytes.Equal(memory, were[i]) {
				t.Fatal("a page that was handed in is changed:", memory)
			}
		}
		if !slices.EqualFunc(spare[:len(pages)], l.pages(), bytes.Equal) || string(spare[len(pages)]) != "spare" {
			t.Fatal("the list that was handed in is changed")
		}
		for i := range memories {
			spoil(memories[i])
		}
		clear(spare)
		check(t, h, changed)
	}
}

// The same bytes as two pages are two pages nevertheless.
func TestOnePageHandedInTwice(t *testing.T) {
	p := rows{0: "a"}.told()
	h, _ := heap.Load([][]byte{p, p})
	h.Put(api.Rid{}, []byte("bc"))
	check(t, h, telling{{0: "bc"}, {0: "a"}})
	got := h.Pages()
	spoil(got[0])
	if !bytes.Equal(got[1], p) {
		t.Error("two pages of an answer share memory")
	}
	again := load(t, telling{{0: "a"}, {0: "a"}}).Pages()
	spoil(again[0])
	if !bytes.Equal(again[1], p) {
		t.Error("two like pages of an answer share memory")
	}
}

func TestRowsHandedIn(t *testing.T) {
	h := heap.New()
	for i, call := range []func(b []byte) api.Errno{
		func(b []byte) api.Errno { _, e := h.Add(b); return e },
		func(b []byte) api.Errno { return h.Put(api.Rid{}, b) },
		func(b []byte) api.Errno { return h.Restore(api.Rid{Page: 1, Slot: 2}, b) },
		func(b []byte) api.Errno { _, e := h.Add(b[:0]); return e },
		func(b []byte) api.Errno { return h.Put(api.Rid{Page: 1, Slot: 2}, b[:2]) },
	} {
		b, memory := roomy([]byte("handed"))
		was := slices.Clone(memory)
		e := call(b)
		if e != api.OK || !bytes.Equal(memory, was) {
			t.Error(i, e, memory)
		}
		pages := h.Pages()
		spoil(memory)
		if !slices.EqualFunc(h.Pages(), pages, bytes.Equal) {
			t.Error("bytes that were handed in are kept by call", i)
		}
	}
	check(t, h, telling{{0: "handed", 1: ""}, {2: "ha"}})
}

func TestAnswersAreNew(t *testing.T) {
	for _, l := range heaps() {
		h := load(t, l)
		spoilAnswers(h)
		check(t, h, l)
		l = checkAdd(t, h, l, "added")
		l = checkRestore(t, h, l, api.Rid{Page: 30, Slot: 3}, "restored")
		l = checkPut(t, h, l, api.Rid{Page: 30, Slot: 3}, "put")
		spoilAnswers(h)
		check(t, h, l)
		if all := l.all(); len(all) > 0 {
			l, _ = l.cut(all[0])
			h.Cut(all[0])
		}
		spoilAnswers(h)
		check(t, h, l)
	}
}

// spoilAnswers: changes all that a heap's calls answer.
func spoilAnswers(h *heap.Heap) {
	all := h.All()
	for i, at := range all {
		if b, ok := h.Get(at); ok && i%13 < 2 {
			spoil(b)
		}
	}
	for _, list := range [][]api.Rid{all, h.After(api.Rid{}, 5)} {
		list = list[:cap(list)]
		for i := range list {
			list[i] = api.Rid{Page: 9, Slot: 9}
		}
	}
	pages := h.Pages()
	for _, p := range pages {
		spoil(p)
	}
	clear(pages[:cap(pages)])
}

// Of one answer no two pages share memory, spare room too.
func TestPagesAreApart(t *testing.T) {
	for _, l := range heaps() {
		want, got := l.pages(), load(t, l).Pages()
		for i := range got {
			spoil(got[i])
			if i+1 < len(got) && !bytes.Equal(got[i+1], want[i+1]) {
				t.Fatal("pages share memory:", i)
			}
		}
	}
}

// Two heaps of the same pages go ways of their own.
func TestHeapsAreApart(t *testing.T) {
	l := telling{{0: "a"}, {0: "b"}}
	one := load(t, l)
	other, _ := heap.Load(one.Pages())
	one.Put(api.Rid{Page: 1}, []byte("c"))
	other.Cut(api.Rid{Page: 1})
	other.Add([]byte("d"))
	check(t, one, telling{{0: "a"}, {0: "c"}})
	check(t, other, telling{{0: "a", 1: "d"}})
}

// Pages that are cut off at the end leave nothing for those that come again.
func TestPagesComeAgainEmpty(t *testing.T) {
	h := load(t, telling{{0: "a"}, {0: "b"}, {0: "c", 1: "d"}, {0: "e"}})
	for _, at := range []api.Rid{{Page: 1}, {Page: 3}, {Page: 2, Slot: 1}, {Page: 2}} {
		h.Cut(at)
	}
	check(t, h, telling{{0: "a"}})
	h.Restore(api.Rid{Page: 4}, []byte("f"))
	check(t, h, telling{{0: "a"}, {}, {}, {}, {0: "f"}})
	if e := h.Restore(api.Rid{Page: 9}, make([]byte, 201)); e != api.ErrFull {
		t.Error(e)
	}
	check(t, h, telling{{0: "a"}, {}, {}, {}, {0: "f"}})
}

// P1: all calls end, and none panics, at any arguments; and what they come to is as told.

// walk: calls, of each four bytes the first one tells which, two where, the last one what.
func walk(t *testing.T, h *heap.Heap, l telling, calls []byte) {
	for len(calls) >= 4 {
		at := api.Rid{Page: int(int8(calls[1])), Slot: int(calls[2])}
		s := strings.Repeat(string(calls[3:4]), int(calls[3]))
		if all := l.all(); calls[0]&8 != 0 && len(all) > 0 {
			at = all[(int(calls[1])*256+int(calls[2]))%len(all)]
		}
		switch calls[0] & 7 {
		case 0, 1, 2:
			l = checkAdd(t, h, l, s)
		case 3:
			l = checkPut(t, h, l, at, s)
		case 4, 5:
			less, want := l.cut(at)
			if e := h.Cut(at); e != want {
				t.Fatalf("Cut(%v) is %v, not %v", at, e, want)
			}
			l = less
		case 6:
			l = checkRestore(t, h, l, at, s)
		case 7:
			if got := h.After(at, int(calls[3])-3); !slices.Equal(got, behind(l.all(), at, int(calls[3])-3)) {
				t.Fatalf("After(%v) is %v", at, got)
			}
		}
		calls = calls[4:]
	}
	check(t, h, l)
}

func TestManyCalls(t *testing.T) {
	seed := uint32(3)
	for _, l := range heaps() {
		if len(l.all()) > 5000 {
			continue
		}
		for _, most := range []uint32{4, 60, 256} {
			calls := make([]byte, 4*60)
			for i := range calls {
				seed = seed*1664525 + 1013904223
				calls[i] = byte(seed >> 16)
				if i%4 == 3 {
					calls[i] = byte(seed >> 16 % most)
				}
			}
			walk(t, load(t, l), l, calls)
		}
	}
}

func FuzzCalls(f *testing.F) {
	f.Add([]byte{0, 0, 0, 200, 1, 0, 0, 54, 2, 0, 0, 53, 6, 5, 250, 4, 12, 0, 0, 0, 7, 255, 0, 20})
	f.Add(bytes.Repeat([]byte{0, 0, 0, 120, 4, 0, 0, 0}, 30))
	f.Add([]byte{6, 127, 250, 4, 6, 127, 251, 0, 6, 128, 0, 0, 6, 0, 0, 201, 8 + 6, 0, 0, 1, 8 + 4, 0, 0, 0})
	f.Fuzz(func(t *testing.T, calls []byte) {
		walk(t, heap.New(), nil, calls)
	})
}

// FuzzLoad: bytes as pages, whatever they are; each call upon what is loaded, at any place.
func FuzzLoad(f *testing.F) {
	for _, l := range heaps() {
		f.Add(slices.Concat(l.pages()...), 1, 2, 3, []byte("abc"))
	}
	f.Add(make([]byte, 700), -1, 250, math.MinInt, make([]byte, 201))
	f.Fuzz(func(t *testing.T, b []byte, page, slot, most int, row []byte) {
		h, e := heap.Load(slices.Collect(slices.Chunk(b, 256)))
		if e != api.OK {
			if h != nil || e != api.ErrCorrupt {
				t.Fatal(h, e)
			}
			h = heap.New()
		} else if !bytes.Equal(slices.Concat(h.Pages()...), b) {
			t.Fatalf("Pages are %v, not %v", h.Pages(), b)
		}
		at := api.Rid{Page: page, Slot: slot}
		if got, want := h.After(at, most), behind(h.All(), at, most); !slices.Equal(got, want) {
			t.Fatalf("After(%v, %d) is %v, not %v", at, most, got, want)
		}
		before := h.Pages()
		had, there := h.Get(at)
		if e := h.Restore(at, row); there != (e == api.ErrThere) || e == api.OK && h.Cut(at) != api.OK {
			t.Fatalf("Restore(%v) is %v", at, e)
		}
		if e := h.Put(at, row); there == (e == api.ErrNone) || e == api.OK && h.Put(at, had) != api.OK {
			t.Fatalf("Put(%v) is %v", at, e)
		}
		if place, e := h.Add(row); e == api.OK && h.Cut(place) != api.OK {
			t.Fatalf("Cut(%v) isn't OK", place)
		}
		if !slices.EqualFunc(h.Pages(), before, bytes.Equal) {
			t.Fatalf("what is done and undone leaves %v, not %v", h.Pages(), before)
		}
		if e := h.Cut(at); there != (e == api.OK) {
			t.Fatalf("Cut(%v) is %v", at, e)
		}
	})
}

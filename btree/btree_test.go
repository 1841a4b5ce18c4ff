package btree_test

import (
	"math"
	"slices"
	"strings"
	"testing"
	"unsafe"

	"interlock/api"
	"interlock/btree"
)

// telling is what a tree has, by the chapter's words: entries in order.
type telling []api.Entry

// below: is an entry ahead of another one?
func below(a, b api.Entry) bool {
	if a.Key != b.Key {
		return belowText(a.Key, b.Key)
	}
	if a.Rid.Page != b.Rid.Page {
		return a.Rid.Page < b.Rid.Page
	}
	return a.Rid.Slot < b.Rid.Slot
}

// belowText: is a text ahead of another one, byte by byte?
func belowText(a, b string) bool {
	for i := range min(len(a), len(b)) {
		if a[i] != b[i] {
			return a[i] < b[i]
		}
	}
	return len(a) < len(b)
}

func (l telling) has(e api.Entry) bool { return slices.Contains(l, e) }

func (l telling) with(e api.Entry) telling {
	if l.has(e) {
		return l
	}
	at := 0
	for at < len(l) && below(l[at], e) {
		at++
	}
	return slices.Insert(slices.Clone(l), at, e)
}

func (l telling) without(e api.Entry) telling {
	return slices.DeleteFunc(slices.Clone(l), func(x api.Entry) bool { return x == e })
}

func (l telling) find(key string) []api.Rid {
	var list []api.Rid
	for _, e := range l {
		if e.Key == key {
			list = append(list, e.Rid)
		}
	}
	return list
}

func (l telling) between(from, to string, most int) []api.Entry {
	var list []api.Entry
	for _, e := range l {
		if !belowText(e.Key, from) && belowText(e.Key, to) && len(list) < most {
			list = append(list, e)
		}
	}
	return list
}

func (l telling) twice() (string, bool) {
	for i, e := range l {
		if i > 0 && l[i-1].Key == e.Key {
			return e.Key, true
		}
	}
	return "", false
}

// look is a walk through a tree's pages that asks for what the chapter tells of them.
type look struct {
	t      *testing.T
	pages  []api.TreePage
	seen   []int // how many pages are above each, next to it
	depth  int   // of the leaves; below 0, as long as none was met
	leaves []api.Entry
}

// checkPages: a tree's pages are as told, and have just these entries.
func checkPages(t *testing.T, pages []api.TreePage, l telling) {
	t.Helper()
	if len(pages) == 0 {
		t.Fatal("there are no pages")
	}
	k := &look{t: t, pages: pages, seen: make([]int, len(pages)), depth: -1}
	k.page(0, 0, nil, nil)
	for at, n := range k.seen {
		if n > 1 || n == 0 && at > 0 || n == 1 && at == 0 {
			t.Fatalf("page %d is below %d others: %v", at, n, pages)
		}
	}
	if !slices.Equal(k.leaves, l) {
		t.Fatalf("the leaves have %v, not %v", k.leaves, l)
	}
}

// page: one page and all below it, which are at or above a bound and below another one (nil: there is none).
func (k *look) page(at, depth int, least, beyond *api.Entry) {
	p := k.pages[at]
	fewest := 2
	if at == 0 {
		fewest = 1
	}
	if len(p.Keys) > 4 || len(p.Keys) < fewest && !(at == 0 && p.Leaf) {
		k.t.Fatalf("page %d has %d keys: %v", at, len(p.Keys), k.pages)
	}
	for i, e := range p.Keys {
		if i > 0 && !below(p.Keys[i-1], e) || least != nil && below(e, *least) || beyond != nil && !below(e, *beyond) {
			k.t.Fatalf("key %d of page %d is out of order: %v", i, at, k.pages)
		}
	}
	if p.Leaf {
		k.leaf(at, depth)
		return
	}
	if len(p.Kids) != len(p.Keys)+1 {
		k.t.Fatalf("page %d has %d keys and %d pages below: %v", at, len(p.Keys), len(p.Kids), k.pages)
	}
	for i, kid := range p.Kids {
		if kid <= at || kid >= len(k.pages) {
			k.t.Fatalf("page %d isn't behind page %d: %v", kid, at, k.pages)
		}
		from, to := least, beyond
		if i > 0 {
			from = &p.Keys[i-1]
		}
		if i < len(p.Keys) {
			to = &p.Keys[i]
		}
		k.seen[kid]++
		k.page(kid, depth+1, from, to)
	}
}

func (k *look) leaf(at, depth int) {
	p := k.pages[at]
	if k.depth < 0 {
		k.depth = depth
	}
	if depth != k.depth || len(p.Kids) > 0 {
		k.t.Fatalf("leaf %d is %d deep, not %d, or has pages below: %v", at, depth, k.depth, k.pages)
	}
	k.leaves = append(k.leaves, p.Keys...)
}

// check: a tree is as told.
func check(t *testing.T, x *btree.Tree, l telling) {
	t.Helper()
	if got := x.All(); !slices.Equal(got, l) {
		t.Fatalf("All is %v, not %v", got, l)
	}
	if n := x.Count(); n != len(l) {
		t.Fatalf("Count is %d, not %d", n, len(l))
	}
	key, ok := x.Twice()
	if wantKey, want := l.twice(); key != wantKey || ok != want {
		t.Fatalf("Twice is %q, %v, not %q, %v", key, ok, wantKey, want)
	}
	checkPages(t, x.Pages(), l)
}

// insert, remove: one call, and what it answers is as told.

func insert(t *testing.T, x *btree.Tree, l telling, e api.Entry) telling {
	t.Helper()
	if got, want := x.Insert(e), !l.has(e); got != want {
		t.Fatalf("Insert of %v is %v, with %v", e, got, l)
	}
	return l.with(e)
}

func remove(t *testing.T, x *btree.Tree, l telling, e api.Entry) telling {
	t.Helper()
	if got, want := x.Delete(e), l.has(e); got != want {
		t.Fatalf("Delete of %v is %v, with %v", e, got, l)
	}
	return l.without(e)
}

// tree: one of these entries, inserted in the order in which they stand.
func tree(entries []api.Entry) (*btree.Tree, telling) {
	x, l := btree.New(), telling(nil)
	for _, e := range entries {
		x.Insert(e)
		l = l.with(e)
	}
	return x, l
}

func entry(key string, page, slot int) api.Entry {
	return api.Entry{Key: key, Rid: api.Rid{Page: page, Slot: slot}}
}

// letters: entries whose keys are letters, one each.
func letters(s string) []api.Entry {
	var list []api.Entry
	for _, c := range strings.Split(s, "") {
		list = append(list, entry(c, 0, 0))
	}
	return list
}

// dice answers the numbers of a rule, each below the one that it is handed.
func dice(seed uint32) func(n int) int {
	return func(n int) int {
		seed = seed*1664525 + 1013904223
		return int(seed>>16) % n
	}
}

// mixed: a list in some order.
func mixed[T any](list []T, seed uint32) []T {
	list, next := slices.Clone(list), dice(seed)
	for i := len(list) - 1; i > 0; i-- {
		j := next(i + 1)
		list[i], list[j] = list[j], list[i]
	}
	return list
}

// orders: a list's own one, the backward one, from both ends, from the middle, every seventh, and mixed ones.
func orders[T any](list []T) [][]T {
	back := slices.Clone(list)
	slices.Reverse(back)
	var ends, sevenths []T
	for i := range list {
		if i%2 == 0 {
			ends = append(ends, list[i/2])
		} else {
			ends = append(ends, back[i/2])
		}
	}
	for first := range min(7, len(list)) {
		for i := first; i < len(list); i += 7 {
			sevenths = append(sevenths, list[i])
		}
	}
	middle := slices.Clone(ends)
	slices.Reverse(middle)
	return [][]T{list, back, ends, middle, sevenths, mixed(list, 1), mixed(list, 2)}
}

// permutations: all orders of a list.
func permutations[T any](list []T) [][]T {
	if len(list) == 0 {
		return [][]T{nil}
	}
	var all [][]T
	for i, first := range list {
		for _, rest := range permutations(slices.Delete(slices.Clone(list), i, i+1)) {
			all = append(all, append([]T{first}, rest...))
		}
	}
	return all
}

// keys: texts in order, byte by byte.
func keys() []string {
	return []string{
		"", "\x00", "\x00\x00", "\x00\x01", "\x00\xff", "\x01", "\x01\x00", "A", "a", "a\x00", "a\x00b", "a\x01", "aa", "aaa", "ab", "b", "ba",
		"\x7f", "\x7f\xff", "\x80", "\xc3\xa4", "\xfe\xff\xff", "\xff", "\xff\x00", "\xff\xff", "\xff\xff\xff",
	}
}

// numbers: of pages and slots, in order.
func numbers() []int {
	return []int{math.MinInt, math.MinInt + 1, -1 << 32, math.MinInt32, -2, -1, 0, 1, 2, 255, math.MaxInt32, 1 << 32, math.MaxInt - 1, math.MaxInt}
}

// lists: entries in order, of all kinds.
func lists() [][]api.Entry {
	var single, places, both, few []api.Entry
	for i, key := range keys() {
		single = append(single, entry(key, 5, i))
		for slot := range 1 + i%4 {
			few = append(few, entry(key, 0, slot-1))
		}
		for j, n := range numbers() {
			both = append(both, entry(key, n, numbers()[(i+j)%len(numbers())]))
		}
	}
	for _, page := range numbers() {
		for _, slot := range numbers() {
			places = append(places, entry("same", page, slot))
		}
	}
	return [][]api.Entry{nil, single[:1], single[:4], single[:5], single, few, places, both}
}

// strange: entries that are near to others, but aren't those.
func strange(e api.Entry) []api.Entry {
	return []api.Entry{
		entry(e.Key+"\x00", e.Rid.Page, e.Rid.Slot), entry(e.Key+"x", e.Rid.Page, e.Rid.Slot), entry("x"+e.Key, e.Rid.Page, e.Rid.Slot),
		entry(e.Key, e.Rid.Page+1, e.Rid.Slot), entry(e.Key, e.Rid.Page-1, e.Rid.Slot), entry(e.Key, e.Rid.Page, e.Rid.Slot+1),
		entry(e.Key, e.Rid.Page, e.Rid.Slot-1), entry(e.Key, e.Rid.Slot, e.Rid.Page), entry("", 0, 0), entry("\xff\xff\xff\xff", 9, 9),
		entry(e.Key[:len(e.Key)/2], e.Rid.Page, e.Rid.Slot), entry(e.Key, -e.Rid.Page, e.Rid.Slot), entry(e.Key, ^e.Rid.Page, ^e.Rid.Slot),
	}
}

// P8.1

func TestNew(t *testing.T) {
	x := btree.New()
	check(t, x, nil)
	for _, e := range strange(entry("a", 1, 2)) {
		if x.Has(e) || x.Delete(e) || len(x.Find(e.Key)) != 0 || len(x.Range("", "\xff", 9)) != 0 {
			t.Errorf("New has %v", e)
		}
	}
	check(t, x, nil)
	x.Insert(entry("a", 1, 2))
	check(t, btree.New(), nil)
	check(t, x, telling{entry("a", 1, 2)})
}

func TestInsert(t *testing.T) {
	for _, list := range lists() {
		for _, order := range orders(list) {
			x, l := btree.New(), telling(nil)
			for i, e := range order {
				l = insert(t, x, l, e)
				l = insert(t, x, l, order[i/2]) // is there already
				if i < 40 || i%17 == 0 {
					check(t, x, l)
				}
			}
			check(t, x, list)
		}
	}
}

func TestDelete(t *testing.T) {
	for i, list := range lists() {
		for j, order := range orders(list) {
			x, l := tree(mixed(list, uint32(i+j)))
			for i, e := range order {
				l = remove(t, x, l, e)
				l = remove(t, x, l, order[i/2]) // isn't there any more
				if len(l) < 40 || i%17 == 0 {
					check(t, x, l)
				}
			}
			check(t, x, nil)
		}
	}
}

func TestHas(t *testing.T) {
	for _, list := range lists() {
		for _, order := range orders(list)[3:6] {
			x, l := tree(order)
			for _, e := range list {
				if !x.Has(e) {
					t.Fatalf("Has(%v) is false", e)
				}
				for _, s := range strange(e) {
					if x.Has(s) != l.has(s) {
						t.Fatalf("Has(%v) is %v", s, !l.has(s))
					}
				}
			}
			for i, e := range order {
				if i%2 == 0 {
					l = remove(t, x, l, e)
				}
			}
			for i, e := range order {
				if x.Has(e) != (i%2 == 1) {
					t.Fatalf("Has(%v) is %v when every other one is gone", e, i%2 == 0)
				}
			}
		}
	}
}

// What isn't there is no other one that is near to it.
func TestDeleteOfOthers(t *testing.T) {
	for _, list := range lists() {
		x, l := tree(list)
		for _, e := range list {
			for _, s := range strange(e) {
				if !l.has(s) {
					l = remove(t, x, l, s)
				}
			}
		}
		check(t, x, list)
	}
}

// All orders in which a few entries come and go.
func TestAllOrders(t *testing.T) {
	list := letters("abcdefg")
	for i, order := range permutations(list) {
		x, l := btree.New(), telling(nil)
		for _, e := range order {
			l = insert(t, x, l, e)
		}
		check(t, x, list)
		for j := range order {
			l = remove(t, x, l, order[(j*3+i)%len(order)])
			check(t, x, l)
		}
	}
}

// From trees of many shapes each entry goes first, each other one second, and then one between them.
func TestEachGoesFirst(t *testing.T) {
	list := letters("abcdefghijklmnopqrstuvwxyzABCDEFGHIJKLMNOPQRSTUVWXYZ")
	for _, order := range orders(list) {
		_, all := tree(order)
		for i, first := range list {
			for j := range list {
				x, _ := tree(order)
				l := remove(t, x, all, first)
				if second := list[j]; i != j {
					l = remove(t, x, l, second)
					l = remove(t, x, l, list[(i+j)/2])
				}
				check(t, x, l)
			}
		}
	}
}

// Entries that went come again.
func TestComeAgain(t *testing.T) {
	for _, list := range lists() {
		x, l := tree(list)
		for _, order := range orders(list) {
			for i, e := range order {
				l = remove(t, x, l, e)
				if i%3 == 0 {
					l = insert(t, x, l, e)
				}
			}
			check(t, x, l)
			for _, e := range order {
				l = insert(t, x, l, e)
			}
			check(t, x, list)
		}
	}
}

// A deep tree grows and goes, from its beginning, from its end, and in between.
func TestManyEntries(t *testing.T) {
	var list []api.Entry
	for i := range 3000 {
		list = append(list, entry(string([]byte{byte(i / 1500), byte(i / 10 % 150)}), i/50, i))
	}
	slices.SortFunc(list, func(a, b api.Entry) int {
		if below(a, b) {
			return -1
		}
		return 1
	})
	for _, order := range orders(list) {
		x := btree.New()
		for _, e := range mixed(order, 5)[:1500] {
			x.Insert(e)
		}
		for _, e := range order {
			x.Insert(e)
		}
		check(t, x, list)
		for i, e := range order {
			if !x.Delete(e) || x.Delete(e) || x.Has(e) {
				t.Fatal(i, e)
			}
			if i%250 != 0 {
				continue
			}
			gone := map[api.Entry]int{}
			for _, e := range order[:i+1] {
				gone[e] = 1
			}
			check(t, x, slices.DeleteFunc(slices.Clone(list), func(e api.Entry) bool { return gone[e] == 1 }))
		}
		check(t, x, nil)
	}
}

// Trees go ways of their own.
func TestTreesAreApart(t *testing.T) {
	list := letters("abcdefghij")
	one, l := tree(list)
	other, m := tree(list)
	l = remove(t, one, l, list[3])
	m = insert(t, other, m, entry("d", 1, 0))
	check(t, one, l)
	check(t, other, m)
}

// P8.2

// texts: those of a list's keys, and others ahead of them, behind and between.
func texts(list []api.Entry) []string {
	some := keys()
	for i, e := range list {
		if i%(1+len(list)/10) == 0 {
			some = append(some, e.Key, e.Key+"\x00", e.Key+"\xff", e.Key[:len(e.Key)/2])
		}
	}
	slices.Sort(some)
	return slices.Compact(some)
}

func TestFind(t *testing.T) {
	for _, list := range lists() {
		for _, order := range orders(list)[2:5] {
			x, l := tree(order)
			for _, key := range texts(list) {
				if got, want := x.Find(key), l.find(key); !slices.Equal(got, want) {
					t.Fatalf("Find(%q) is %v, not %v", key, got, want)
				}
			}
		}
	}
}

func TestFindExamples(t *testing.T) {
	x, _ := tree([]api.Entry{entry("b", 1, 7), entry("a", 9, 9), entry("b", 0, 8), entry("b", 1, -7), entry("b", -1, 5), entry("b\x00", 0, 0), entry("c", -9, 0), entry("", 2, 2)})
	for key, want := range map[string][]api.Rid{
		"b":     {{Page: -1, Slot: 5}, {Slot: 8}, {Page: 1, Slot: -7}, {Page: 1, Slot: 7}},
		"a":     {{Page: 9, Slot: 9}},
		"b\x00": {{}},
		"":      {{Page: 2, Slot: 2}},
		"c":     {{Page: -9}},
		"aa":    nil,
		"\x00":  nil,
		"d":     nil,
	} {
		if got := x.Find(key); !slices.Equal(got, want) {
			t.Errorf("Find(%q) is %v, not %v", key, got, want)
		}
	}
}

func TestRange(t *testing.T) {
	for i, list := range lists() {
		x, l := tree(mixed(list, uint32(i)))
		for _, from := range texts(list) {
			for _, to := range texts(list) {
				for _, most := range []int{math.MinInt, -1, 0, 1, 2, 3, 5, len(list) - 1, len(list), len(list) + 1, math.MaxInt} {
					if got, want := x.Range(from, to, most), l.between(from, to, most); !slices.Equal(got, want) {
						t.Fatalf("Range(%q, %q, %d) is %v, not %v", from, to, most, got, want)
					}
				}
			}
		}
	}
}

func TestRangeExamples(t *testing.T) {
	a, b, b2, c, d := entry("a", 0, 1), entry("b", -5, 2), entry("b", 0, 3), entry("c", 0, 4), entry("d", 0, 5)
	x, _ := tree([]api.Entry{d, b2, a, c, b})
	for _, r := range []struct {
		from, to string
		most     int
		want     []api.Entry
	}{
		{"b", "d", 9, []api.Entry{b, b2, c}},
		{"b", "d", 3, []api.Entry{b, b2, c}},
		{"b", "d", 2, []api.Entry{b, b2}},
		{"b", "d", 1, []api.Entry{b}},
		{"b", "d", 0, nil},
		{"b", "d", -1, nil},
		{"b", "b", 9, nil},
		{"b", "b\x00", 9, []api.Entry{b, b2}},
		{"b\x00", "d", 9, []api.Entry{c}},
		{"", "b", 9, []api.Entry{a}},
		{"", "", 9, nil},
		{"c", "\xff", 9, []api.Entry{c, d}},
		{"d", "b", 9, nil},
		{"dd", "z", 9, nil},
		{"", "z", 9, []api.Entry{a, b, b2, c, d}},
	} {
		if got := x.Range(r.from, r.to, r.most); !slices.Equal(got, r.want) {
			t.Errorf("Range(%q, %q, %d) is %v, not %v", r.from, r.to, r.most, got, r.want)
		}
	}
}

func TestTwice(t *testing.T) {
	for _, c := range []struct {
		keys, want string
		ok         bool
	}{
		{"", "", false}, {"a", "", false}, {"aa", "a", true}, {"ab", "", false}, {"abcdefghijklm", "", false},
		{"abcdefghijklmm", "m", true}, {"aabcdefghijklm", "a", true}, {"abcddefghijjkl", "d", true}, {"abcdeeeeeeefff", "e", true}, {"zyxwvutsrqpoonml", "o", true},
	} {
		for seed := range uint32(20) {
			x := btree.New()
			for i, at := range mixed([]byte(c.keys), seed) {
				x.Insert(entry(string([]byte{at}), -i, i))
			}
			if key, ok := x.Twice(); key != c.want || ok != c.ok {
				t.Errorf("Twice of %q is %q, %v", c.keys, key, ok)
			}
		}
	}
	x, _ := tree([]api.Entry{entry("a", 0, 0), entry("a", 0, 1), entry("", 0, 0)})
	if key, ok := x.Twice(); key != "a" || !ok {
		t.Errorf("Twice is %q, %v", key, ok)
	}
	x.Insert(entry("", 1, 0))
	if key, ok := x.Twice(); key != "" || !ok {
		t.Errorf("Twice of the empty text is %q, %v", key, ok)
	}
	x.Delete(entry("", 0, 0))
	x.Delete(entry("a", 0, 0))
	if key, ok := x.Twice(); key != "" || ok {
		t.Errorf("Twice is %q, %v when the others are gone", key, ok)
	}
}

// P8.3

func TestNoEntries(t *testing.T) {
	x, l := tree(letters("abcdefghijklmnopqrst"))
	for _, e := range l {
		x.Delete(e)
	}
	for _, empty := range []*btree.Tree{btree.New(), x} {
		if p := empty.Pages(); len(p) != 1 || !p[0].Leaf || len(p[0].Keys) != 0 || len(p[0].Kids) != 0 {
			t.Errorf("Pages are %v", p)
		}
	}
}

func TestUpToFourAreALeaf(t *testing.T) {
	for _, order := range permutations(letters("abcd")) {
		for n := range 5 {
			x, l := tree(order[:n])
			if p := x.Pages(); len(p) != 1 || !p[0].Leaf || !slices.Equal(p[0].Keys, l) {
				t.Errorf("Pages of %v are %v", order[:n], p)
			}
		}
	}
}

func TestFiveAreTwoLeaves(t *testing.T) {
	for _, order := range permutations(letters("abcde")) {
		x, l := tree(order)
		p := x.Pages()
		if len(p) != 3 || p[0].Leaf || len(p[0].Keys) != 1 || !slices.Equal(p[0].Kids, []int{1, 2}) || !p[1].Leaf || !p[2].Leaf {
			t.Fatalf("Pages of %v are %v", order, p)
		}
		if !slices.Equal(slices.Concat(p[1].Keys, p[2].Keys), l) {
			t.Fatalf("the leaves of %v are %v", order, p)
		}
	}
}

// depth: how many pages are above the first leaf.
func depth(pages []api.TreePage) int {
	n := 0
	for at := 0; !pages[at].Leaf; at = pages[at].Kids[0] {
		n++
	}
	return n
}

// A leaf has 2 to 4 entries, a page above others 3 to 5 of them (the root 2 to 5): so many entries are so deep.
func TestDepth(t *testing.T) {
	var list []api.Entry
	for i := range 700 {
		list = append(list, entry(string([]byte{byte(i / 26), byte('a' + i%26)}), 0, i))
	}
	for _, order := range orders(list) {
		x := btree.New()
		for i, e := range order {
			x.Insert(e)
			least, most, deep := 0, 4, depth(x.Pages())
			for range deep {
				least, most = max(4, 3*least), 5*most
			}
			if n := i + 1; n > most || n < least {
				t.Fatalf("%d entries are %d deep", n, deep)
			}
		}
	}
}

// No key of a page is left of an entry that is gone.
func TestKeysAreEntries(t *testing.T) {
	for _, list := range lists() {
		for _, order := range orders(list) {
			x, l := tree(list)
			for _, e := range order {
				l = remove(t, x, l, e)
				for _, p := range x.Pages() {
					for _, key := range p.Keys {
						if !x.Has(key) {
							t.Fatalf("a page has the key %v when %v is gone", key, e)
						}
					}
				}
			}
		}
	}
}

// P8.4, and rule 4

// A text's bytes are changed behind the tree's back: what it keeps is its own.
func TestKeysHandedIn(t *testing.T) {
	x, memory := btree.New(), []byte("abcdefghijklmnopqrstuvwxyz")
	text := unsafe.String(&memory[0], len(memory))
	for i := range len(text) - 1 {
		x.Insert(entry(text[i:i+2], 0, i))
		x.Has(entry(text[i:i+1], 0, i))
		x.Find(text[i:])
		x.Delete(entry(text[:i], 0, i))
	}
	l := telling(nil)
	for i := range len(text) - 1 {
		l = l.with(entry(strings.Clone(text[i:i+2]), 0, i))
	}
	for i := range memory {
		memory[i] = '.'
	}
	check(t, x, l)
}

// spoil: changes a list, its spare room too.
func spoil[T any](list []T) {
	clear(list[:cap(list)])
}

// spoilAnswers: changes all that a tree's calls answer.
func spoilAnswers(x *btree.Tree, l telling) {
	spoil(x.All())
	spoil(x.Range("", "\xff\xff\xff\xff", 3))
	spoil(x.Range("b", "\xff", math.MaxInt))
	for _, e := range l {
		spoil(x.Find(e.Key))
	}
	pages := x.Pages()
	for _, p := range pages {
		spoil(p.Keys)
		spoil(p.Kids)
	}
	spoil(pages)
}

func TestAnswersAreNew(t *testing.T) {
	for _, list := range lists() {
		x, l := btree.New(), telling(nil)
		for i, e := range mixed(list, 3) {
			l = insert(t, x, l, e)
			if i%7 == 0 || i < 20 {
				spoilAnswers(x, l)
				check(t, x, l)
			}
		}
		for i, e := range mixed(list, 4) {
			l = remove(t, x, l, e)
			if i%7 == 0 || len(l) < 20 {
				spoilAnswers(x, l)
				check(t, x, l)
			}
		}
	}
}

// What was answered stays as it was, whatever the tree does then.
func TestAnswersStay(t *testing.T) {
	for _, list := range lists() {
		x, l := tree(mixed(list, 8))
		all, pages, piece := x.All(), x.Pages(), x.Range("", "b", 20)
		for i, e := range mixed(list, 9) {
			if i%3 > 0 {
				x.Delete(e)
			}
			x.Insert(entry(e.Key+"n", 7, i))
		}
		if !slices.Equal(all, l) || !slices.Equal(piece, l.between("", "b", 20)) {
			t.Fatal("an answer has changed")
		}
		checkPages(t, pages, l)
	}
}

// Of one answer no two lists share memory, spare room too.
func TestPagesAreApart(t *testing.T) {
	x, l := tree(mixed(lists()[6], 8))
	pages := x.Pages()
	for i := range pages {
		got, want := x.Pages(), x.Pages()
		spoil(got[i].Keys)
		spoil(got[i].Kids)
		for j := range got {
			if i != j && (!slices.Equal(got[j].Keys, want[j].Keys) || !slices.Equal(got[j].Kids, want[j].Kids)) {
				t.Fatalf("pages %d and %d share memory", i, j)
			}
		}
		if got := want[i]; !slices.Equal(got.Keys, pages[i].Keys) || !slices.Equal(got.Kids, pages[i].Kids) {
			t.Fatalf("two answers share memory: page %d", i)
		}
	}
	for i := range pages { // a page's keys and the numbers of those below it grow each for itself
		pages[i].Keys = append(pages[i].Keys, api.Entry{})[:len(pages[i].Keys)]
		pages[i].Kids = append(pages[i].Kids, -1)[:len(pages[i].Kids)]
	}
	checkPages(t, pages, l)
}

// Calls that only ask change nothing.
func TestAskingChangesNothing(t *testing.T) {
	for _, list := range lists() {
		x, l := tree(mixed(list, 6))
		pages := x.Pages()
		for _, e := range list {
			x.Insert(e)
			for _, s := range strange(e) {
				x.Has(s)
				x.Find(s.Key)
				x.Range(s.Key, e.Key, 2)
				if !l.has(s) {
					x.Delete(s)
				}
			}
			x.Count()
			x.Twice()
		}
		same := func(a, b api.TreePage) bool {
			return a.Leaf == b.Leaf && slices.Equal(a.Keys, b.Keys) && slices.Equal(a.Kids, b.Kids)
		}
		if !slices.EqualFunc(x.Pages(), pages, same) {
			t.Fatalf("Pages are %v, not %v", x.Pages(), pages)
		}
	}
}

// P1: all calls end, and none panics, at any arguments; and what they come to is as told.

// walk: calls, of each three bytes the first one tells which, the others with what.
func walk(t *testing.T, x *btree.Tree, l telling, calls []byte) {
	t.Helper()
	for len(calls) >= 3 {
		e := entry(strings.Repeat(string(calls[1:2]), int(calls[1]%3)), int(int8(calls[2]))>>4, int(calls[2]&15))
		if calls[0]&8 != 0 && len(l) > 0 {
			e = l[(int(calls[1])*256+int(calls[2]))%len(l)]
		}
		switch calls[0] & 7 {
		case 0, 1, 2:
			l = insert(t, x, l, e)
		case 3, 4:
			l = remove(t, x, l, e)
		case 5:
			if x.Has(e) != l.has(e) {
				t.Fatalf("Has(%v) is %v", e, !l.has(e))
			}
		case 6:
			if got, want := x.Find(e.Key), l.find(e.Key); !slices.Equal(got, want) {
				t.Fatalf("Find(%q) is %v, not %v", e.Key, got, want)
			}
		case 7:
			to, most := string(calls[2:3]), int(calls[0]>>4)-2
			if got, want := x.Range(e.Key, to, most), l.between(e.Key, to, most); !slices.Equal(got, want) {
				t.Fatalf("Range(%q, %q, %d) is %v, not %v", e.Key, to, most, got, want)
			}
		}
		check(t, x, l)
		calls = calls[3:]
	}
}

func TestManyCalls(t *testing.T) {
	for seed := range uint32(40) {
		next := dice(seed)
		calls := make([]byte, 3*300)
		for i := range calls {
			calls[i] = byte(next(256))
			if i%3 == 1 && seed%2 == 0 {
				calls[i] %= 8
			}
			if i%3 == 0 && seed%4 == 0 && i > len(calls)/2 { // more of them go than come
				calls[i] |= 8
			}
		}
		walk(t, btree.New(), nil, calls)
	}
}

func FuzzCalls(f *testing.F) {
	f.Add([]byte{0, 1, 1, 0, 1, 2, 0, 1, 3, 0, 1, 4, 0, 1, 5, 8 + 3, 0, 0, 8 + 4, 0, 1, 6, 1, 0, 7, 0, 255, 5, 1, 2})
	f.Add(slices.Concat(slices.Repeat([]byte{1, 4, 77, 1, 5, 200, 2, 7, 3}, 20), slices.Repeat([]byte{8 + 3, 3, 5}, 30)))
	f.Fuzz(func(t *testing.T, calls []byte) {
		x, l := tree(letters("mnopqrstuvwxyzabcdefghijkl"))
		walk(t, x, l, calls[:min(len(calls), 3*100)]) // all is asked behind each call: many take their time
	})
}

// FuzzEntries: any texts and places.
func FuzzEntries(f *testing.F) {
	f.Add("a", "", 0, math.MinInt, 5)
	f.Add("\xff\x00", "\xff", math.MaxInt, -1, -3)
	f.Add("a\x00", "a", math.MinInt, math.MaxInt, math.MaxInt)
	f.Fuzz(func(t *testing.T, key, other string, page, slot, most int) {
		x, l := btree.New(), telling(nil)
		for _, k := range []string{key, other, key + other, other + key} {
			for _, e := range []api.Entry{entry(k, page, slot), entry(k, slot, page), entry(k, page+1, slot-1)} {
				l = insert(t, x, l, e)
				check(t, x, l)
			}
		}
		if got, want := x.Range(key, other, most), l.between(key, other, most); !slices.Equal(got, want) {
			t.Fatalf("Range(%q, %q, %d) is %v, not %v", key, other, most, got, want)
		}
		if got, want := x.Find(other), l.find(other); !slices.Equal(got, want) {
			t.Fatalf("Find(%q) is %v, not %v", other, got, want)
		}
		for _, e := range mixed(l, uint32(len(key))) {
			l = remove(t, x, l, e)
			check(t, x, l)
		}
	})
}

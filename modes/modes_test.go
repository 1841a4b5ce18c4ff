package modes_test

import (
	"math"
	"slices"
	"strconv"
	"strings"
	"testing"
	"unsafe"

	"interlock/api"
	"interlock/modes"
)

// against: what a mode conflicts with, as the chapter's table has it; of what isn't a mode nothing.
func against(m int) []int {
	return map[int][]int{
		1: {6, 8},
		2: {3, 5, 6, 8},
		3: {2, 5, 6, 8},
		4: {4, 6, 8},
		5: {2, 3, 5, 6, 8},
		6: {1, 2, 3, 4, 5, 6, 8},
		7: {8},
		8: {1, 2, 3, 4, 5, 6, 7, 8},
	}[m]
}

// covered: what a mode covers, worked out by hand.
func covered(m int) []int {
	return map[int][]int{
		1: {1, 7},
		2: {1, 2, 7},
		3: {1, 3, 7},
		4: {1, 4, 7},
		5: {1, 2, 3, 5, 7},
		6: {1, 2, 3, 4, 5, 6, 7},
		7: {7},
		8: {1, 2, 3, 4, 5, 6, 7, 8},
	}[m]
}

// joins: the join of a mode and each one from 1 on, worked out by hand.
func joins(m int) []int {
	return map[int][]int{
		1: {1, 2, 3, 4, 5, 6, 1, 8},
		2: {2, 2, 5, 6, 5, 6, 2, 8},
		3: {3, 5, 3, 6, 5, 6, 3, 8},
		4: {4, 6, 6, 4, 6, 6, 4, 8},
		5: {5, 5, 5, 6, 5, 6, 5, 8},
		6: {6, 6, 6, 6, 6, 6, 6, 8},
		7: {1, 2, 3, 4, 5, 6, 7, 8},
		8: {8, 8, 8, 8, 8, 8, 8, 8},
	}[m]
}

// all: the modes, by the names that the chapter gives the numbers.
func all() []int {
	return []int{api.MIntentShare, api.MIntentUpdate, api.MShare, api.MShareUpdate, api.MUpdate, api.MExclusive, api.MSchema, api.MAlter}
}

// isMode: is it one of them?
func isMode(m int) bool { return slices.Contains(all(), m) }

// wrong: numbers that are no modes, those among them that have a mode's lowest bits, or its number below 0.
func wrong() []int {
	list := []int{0, 9, 10, 15, 16, 17, 62, 63, 64, 65, 71, 72, 127, 255, math.MaxInt32, math.MaxInt - 1, math.MaxInt, math.MinInt, math.MinInt32}
	for _, m := range all() {
		list = append(list, -m, m+8, m+64, m+256, m+1<<32, m+math.MinInt)
	}
	return list
}

// checkPair: what two numbers come to is as the chapter's words have it.
func checkPair(t *testing.T, a, b int) {
	t.Helper()
	if got := modes.Right(a); got != isMode(a) {
		t.Fatalf("Right(%d) is %v", a, got)
	}
	if got := modes.Conflict(a, b); got != slices.Contains(against(a), b) {
		t.Fatalf("Conflict(%d, %d) is %v", a, b, got)
	}
	if got := modes.Covers(a, b); got != slices.Contains(covered(a), b) {
		t.Fatalf("Covers(%d, %d) is %v", a, b, got)
	}
	want := 0
	if isMode(a) && isMode(b) {
		want = joins(a)[b-1]
	}
	if got := modes.Join(a, b); got != want {
		t.Fatalf("Join(%d, %d) is %d, not %d", a, b, got, want)
	}
}

// P10.1

func TestRight(t *testing.T) {
	for i, m := range all() {
		if m != i+1 || !modes.Right(m) {
			t.Errorf("Right(%d) is false", m)
		}
	}
	for _, m := range wrong() {
		if modes.Right(m) {
			t.Errorf("Right(%d) is true", m)
		}
	}
}

func TestAllPairs(t *testing.T) {
	for _, a := range all() {
		for _, b := range all() {
			checkPair(t, a, b)
		}
	}
}

func TestConflictGoesBothWays(t *testing.T) {
	for _, a := range all() {
		for _, b := range all() {
			if modes.Conflict(a, b) != modes.Conflict(b, a) {
				t.Errorf("Conflict(%d, %d) is %v, the other way %v", a, b, modes.Conflict(a, b), modes.Conflict(b, a))
			}
		}
	}
}

// One mode covers another one, if it conflicts with all that that conflicts with.
func TestCoversIsByConflicts(t *testing.T) {
	for _, a := range all() {
		for _, b := range all() {
			want := true
			for _, c := range all() {
				want = want && (modes.Conflict(a, c) || !modes.Conflict(b, c))
			}
			if got := modes.Covers(a, b); got != want {
				t.Errorf("Covers(%d, %d) is %v", a, b, got)
			}
		}
	}
}

// Of the modes that cover both, none conflicts with fewer than the join, and none that conflicts with as many is less.
func TestJoinIsByCovers(t *testing.T) {
	for _, a := range all() {
		for _, b := range all() {
			join := modes.Join(a, b)
			if !modes.Covers(join, a) || !modes.Covers(join, b) {
				t.Errorf("Join(%d, %d) is %d, which doesn't cover both", a, b, join)
			}
			for _, m := range all() {
				more := len(against(m)) - len(against(join))
				if modes.Covers(m, a) && modes.Covers(m, b) && (more < 0 || more == 0 && m < join) {
					t.Errorf("Join(%d, %d) is %d, not %d", a, b, join, m)
				}
			}
		}
	}
}

func TestJoinExamples(t *testing.T) {
	for _, c := range []struct{ a, b, want int }{
		{api.MShare, api.MIntentUpdate, api.MUpdate}, // the chapter's
		{api.MIntentUpdate, api.MShare, api.MUpdate},
		{api.MIntentShare, api.MIntentShare, api.MIntentShare},
		{api.MSchema, api.MSchema, api.MSchema},
		{api.MSchema, api.MIntentShare, api.MIntentShare},
		{api.MShareUpdate, api.MShare, api.MExclusive},
		{api.MShareUpdate, api.MIntentUpdate, api.MExclusive},
		{api.MExclusive, api.MSchema, api.MExclusive},
		{api.MExclusive, api.MAlter, api.MAlter},
		{api.MSchema, api.MAlter, api.MAlter},
	} {
		if got := modes.Join(c.a, c.b); got != c.want {
			t.Errorf("Join(%d, %d) is %d, not %d", c.a, c.b, got, c.want)
		}
	}
}

// Joins of more than two come to the same, whichever two are joined first.
func TestJoinOfThree(t *testing.T) {
	for _, a := range all() {
		for _, b := range all() {
			for _, c := range all() {
				one, other := modes.Join(modes.Join(a, b), c), modes.Join(a, modes.Join(b, c))
				if one != other {
					t.Errorf("%d, %d and %d come to %d and to %d", a, b, c, one, other)
				}
			}
		}
	}
}

func TestWrongModes(t *testing.T) {
	for _, a := range wrong() {
		for _, b := range append(wrong(), all()...) {
			checkPair(t, a, b)
			checkPair(t, b, a)
		}
	}
}

// P10.2

// texts: texts that a thing may have, names or not; the first one is empty.
func texts() []string {
	return []string{"", "t", "\x00", " ", "\xff", "\x00\xff\x00\x01", "\x01\x80\x00\x00\x00\x00\x00\x00\x05", "No name", strings.Repeat("t", api.MaxName), strings.Repeat("x", 1000)}
}

// kinds: numbers that may be a thing's Kind, wrong ones too.
func kinds() []int {
	list := []int{math.MinInt, math.MinInt32, -4, -3, -2, -1, math.MaxInt32, math.MaxInt - 1, math.MaxInt}
	for k := range 20 {
		list = append(list, k, k+64, k+256, k+1<<32, k+math.MinInt)
	}
	return list
}

// fits: is a thing right, by the chapter's words?
func fits(x api.Thing) bool {
	whole := x.Kind == 1 || x.Kind == 2
	return whole && x.Table+x.Key == "" || x.Kind == 3 && x.Key == "" || x.Kind == 4
}

// above: what must be locked ahead of a thing, by the chapter's words.
func above(x api.Thing) []api.Thing {
	if !fits(x) || x.Kind < 3 {
		return nil
	}
	list := []api.Thing{{Kind: 1}, {Kind: 3, Table: x.Table}}
	return list[:x.Kind-2]
}

// checkThing: what a thing comes to is as told.
func checkThing(t *testing.T, x api.Thing) {
	t.Helper()
	if got := modes.Fits(x); got != fits(x) {
		t.Fatalf("Fits(%#v) is %v", x, got)
	}
	if got := modes.Above(x); !slices.Equal(got, above(x)) {
		t.Fatalf("Above(%#v) is %#v, not %#v", x, got, above(x))
	}
}

func TestThingExamples(t *testing.T) {
	database, table := api.Thing{Kind: api.KDatabase}, api.Thing{Kind: api.KTable, Table: "t"}
	for _, c := range []struct {
		x     api.Thing
		ok    bool
		above []api.Thing
	}{
		{database, true, nil},
		{api.Thing{Kind: api.KDatabase, Table: "t"}, false, nil},
		{api.Thing{Kind: api.KDatabase, Key: "k"}, false, nil},
		{api.Thing{Kind: api.KDatabase, Table: "t", Key: "k"}, false, nil},
		{api.Thing{Kind: api.KGrants}, true, nil},
		{api.Thing{Kind: api.KGrants, Table: "t"}, false, nil},
		{api.Thing{Kind: api.KGrants, Key: "k"}, false, nil},
		{api.Thing{Kind: api.KGrants, Table: "t", Key: "k"}, false, nil},
		{table, true, []api.Thing{database}},
		{api.Thing{Kind: api.KTable}, true, []api.Thing{database}},
		{api.Thing{Kind: api.KTable, Key: "k"}, false, nil},
		{api.Thing{Kind: api.KTable, Table: "t", Key: "k"}, false, nil},
		{api.Thing{Kind: api.KRow, Table: "t", Key: "k"}, true, []api.Thing{database, table}},
		{api.Thing{Kind: api.KRow, Table: "t"}, true, []api.Thing{database, table}},
		{api.Thing{Kind: api.KRow, Key: "k"}, true, []api.Thing{database, {Kind: api.KTable}}},
		{api.Thing{Kind: api.KRow}, true, []api.Thing{database, {Kind: api.KTable}}},
		{api.Thing{}, false, nil},
		{api.Thing{Table: "t", Key: "k"}, false, nil},
		{api.Thing{Kind: -1}, false, nil},
		{api.Thing{Kind: 5, Table: "t", Key: "k"}, false, nil},
	} {
		if got := modes.Fits(c.x); got != c.ok {
			t.Errorf("Fits(%#v) is %v", c.x, got)
		}
		if got := modes.Above(c.x); !slices.Equal(got, c.above) {
			t.Errorf("Above(%#v) is %#v, not %#v", c.x, got, c.above)
		}
	}
}

func TestAllThings(t *testing.T) {
	for _, kind := range kinds() {
		for _, table := range texts() {
			for _, k := range texts() {
				checkThing(t, api.Thing{Kind: kind, Table: table, Key: k})
			}
		}
	}
}

// What must be locked ahead is right itself, and what must be locked ahead of it comes ahead of it.
func TestAboveIsInOrder(t *testing.T) {
	for _, kind := range kinds() {
		list := modes.Above(api.Thing{Kind: kind, Table: "t"})
		for i, x := range list {
			if !modes.Fits(x) || !slices.Equal(modes.Above(x), list[:i]) {
				t.Errorf("of Kind %d: %#v has %#v above it", kind, x, modes.Above(x))
			}
		}
	}
}

// P10.3

// spoil: changes a list, its spare room too.
func spoil(list []api.Thing) {
	list = list[:cap(list)]
	for i := range list {
		list[i] = api.Thing{Kind: -9, Table: "spoilt", Key: "spoilt"}
	}
}

func TestAnswersAreNew(t *testing.T) {
	for kind := range 6 {
		for _, table := range texts() {
			x := api.Thing{Kind: kind, Table: table}
			first, second := modes.Above(x), modes.Above(x)
			spoil(first)
			if !slices.Equal(second, above(x)) {
				t.Errorf("Above(%#v) is %#v when another answer was changed", x, second)
			}
			checkThing(t, x)
			spoil(second)
			checkThing(t, x)
		}
	}
}

// A text's bytes are changed behind an answer's back: what was answered is its own, and what was handed in stays.
func TestTextsAreNew(t *testing.T) {
	memory := []byte("a table's name, and more of it")
	table := unsafe.String(&memory[0], 7)
	list := modes.Above(api.Thing{Kind: api.KRow, Table: table, Key: table})
	if string(memory) != "a table's name, and more of it" {
		t.Errorf("what was handed in is %q now", memory)
	}
	clear(memory)
	if !slices.Equal(list, []api.Thing{{Kind: api.KDatabase}, {Kind: api.KTable, Table: "a table"}}) {
		t.Errorf("what was answered is %#v now", list)
	}
}

// P1: all calls end, and none panics, at any arguments; and what they come to is as told.

func TestManyNumbers(t *testing.T) {
	for a := -300; a < 300; a++ {
		for b := -300; b < 300; b++ {
			checkPair(t, a, b)
		}
		for bit := range strconv.IntSize {
			for _, m := range all() {
				checkPair(t, a, m^1<<bit)
				checkPair(t, m^1<<bit, a)
			}
		}
	}
}

func FuzzModes(f *testing.F) {
	f.Add(3, 2)
	f.Add(0, 8)
	f.Add(math.MinInt, math.MaxInt)
	f.Fuzz(func(t *testing.T, a, b int) {
		checkPair(t, a, b)
		checkPair(t, b, a)
		checkPair(t, a, a)
		for _, m := range all() {
			checkPair(t, a, m)
			checkPair(t, m, a)
		}
	})
}

func FuzzThings(f *testing.F) {
	f.Add(1, "", "")
	f.Add(3, "t", "")
	f.Add(4, "t", "\x01\x80\x00\x00\x00\x00\x00\x00\x05")
	f.Fuzz(func(t *testing.T, kind int, table, k string) {
		for _, n := range []int{kind, 1, 2, 3, 4} {
			for _, x := range []api.Thing{{Kind: n, Table: table, Key: k}, {Kind: n, Table: table}, {Kind: n, Key: k}, {Kind: n}} {
				checkThing(t, x)
			}
		}
	})
}

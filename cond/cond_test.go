package cond_test

import (
	"bytes"
	"math"
	"slices"
	"strings"
	"testing"
	"unsafe"

	"interlock/api"
	"interlock/cond"
)

func num(n int) api.Value { return api.Value{Kind: api.VInt, N: n} }

func truth(n int) api.Value { return api.Value{Kind: api.VBool, N: n} }

func text(s string) api.Value { return api.Value{Kind: api.VText, S: s} }

// rights: right values; of one Kind each is below those behind it.
func rights() []api.Value {
	list := []api.Value{{}}
	for _, n := range []int{math.MinInt, math.MinInt + 1, -1 << 32, -2, -1, 0, 1, 2, 3, 1 << 32, math.MaxInt - 1, math.MaxInt} {
		list = append(list, num(n))
	}
	list = append(list, truth(0), truth(1))
	for _, s := range []string{"", "\x00", "\x00\x00", "1", "a", "a\x00", "aa", "ab", "b", strings.Repeat("x", 15), strings.Repeat("x", 16), "\x7f", "\xc3\xa4", "\xff", strings.Repeat("\xff", 16)} {
		list = append(list, text(s))
	}
	return list
}

// wrongs: values that aren't right.
func wrongs() []api.Value {
	return []api.Value{
		{N: 1}, {N: -1}, {S: "x"}, {N: math.MinInt, S: "\x00"},
		{Kind: api.VInt, S: "x"}, {Kind: api.VInt, N: 5, S: "\x00"},
		truth(2), truth(-1), truth(math.MaxInt), {Kind: api.VBool, N: 1, S: "x"},
		{Kind: api.VText, N: 1}, {Kind: api.VText, N: -1, S: "x"}, text(strings.Repeat("x", 17)), text(strings.Repeat("\x00", 1000)),
		{Kind: 4}, {Kind: 4, S: "x"}, {Kind: -1}, {Kind: 256}, {Kind: 257, N: 1}, {Kind: math.MaxInt}, {Kind: math.MinInt},
	}
}

func all() []api.Value { return append(rights(), wrongs()...) }

// ops: the comparisons by their numbers, and numbers that are none.
func ops() []int {
	list := []int{math.MinInt, math.MinInt + 1, -1, math.MaxInt32, math.MaxInt}
	for op := range 12 {
		list = append(list, op)
	}
	for op := 1; op <= 6; op++ {
		list = append(list, -op, op+8, op+16, op+64, op+256, op+1<<32, op+math.MinInt)
	}
	return list
}

// isRight: as chapter 4 tells it, Kind by Kind.
func isRight(v api.Value) bool {
	isNumber := v.Kind == 1 && v.S == ""
	isTruth := v.Kind == 2 && (v.N == 0 || v.N == 1) && v.S == ""
	isText := v.Kind == 3 && v.N == 0 && len(v.S) <= 16
	return isNull(v) || isNumber || isTruth || isText
}

func isNull(v api.Value) bool { return v.Kind == 0 && v.N == 0 && v.S == "" }

// below: of two right values of one Kind.
func below(a, b api.Value) bool {
	if a.Kind == 3 {
		return bytes.Compare([]byte(a.S), []byte(b.S)) < 0
	}
	return a.N < b.N
}

// place: the least place that has the name, or the number of columns.
func place(cols []api.Col, name string) int {
	for i, c := range cols {
		if c.Name == name {
			return i
		}
	}
	return len(cols)
}

// one: what a condition is of its column's value, by the chapter's words.
func one(op int, v, with api.Value) int {
	holds := false
	switch {
	case op == 5:
		holds = isNull(v)
	case op == 6:
		holds = !isNull(v)
	case op < 1 || op > 6 || v.Kind == 0 || v.Kind != with.Kind || !isRight(v) || !isRight(with):
		return -1
	default:
		is := []bool{!below(v, with) && !below(with, v), below(v, with) || below(with, v), below(v, with), below(with, v)}
		holds = is[op-1]
	}
	if holds {
		return 1
	}
	return 0
}

// of: what a condition is of a row.
func of(c api.Cond, cols []api.Col, r api.Row) int {
	at := place(cols, c.Col)
	if at == len(cols) || at >= len(r) {
		return -1
	}
	return one(c.Op, r[at], c.With)
}

// rightOne: a condition's error, in the chapter's order.
func rightOne(c api.Cond, cols []api.Col) api.Errno {
	at := place(cols, c.Col)
	switch {
	case at == len(cols):
		return api.ErrNone
	case c.Op < 1 || c.Op > 6:
		return api.ErrForm
	case !isRight(c.With):
		return api.ErrForm
	case c.Op >= 5 && c.With.Kind != 0:
		return api.ErrForm
	case c.Op <= 4 && c.With.Kind == 0:
		return api.ErrForm
	case c.Op <= 4 && c.With.Kind != cols[at].Kind:
		return api.ErrType
	}
	return api.OK
}

func rightAll(l []api.Cond, cols []api.Col) api.Errno {
	if len(l) > 8 {
		return api.ErrMany
	}
	for _, c := range l {
		if e := rightOne(c, cols); e != 0 {
			return e
		}
	}
	return api.OK
}

// equals: of each name the first one's With, or nothing.
func equals(l []api.Cond, names []string) (api.Row, bool) {
	first := map[string]api.Value{}
	for _, c := range slices.Backward(l) {
		if c.Op == 1 {
			first[c.Col] = c.With
		}
	}
	var r api.Row
	for _, name := range names {
		v, ok := first[name]
		if !ok {
			return nil, false
		}
		r = append(r, v)
	}
	return r, len(r) > 0
}

// is: a condition on a column.
func is(col string, op int, with api.Value) api.Cond { return api.Cond{Col: col, Op: op, With: with} }

// three: columns of all Kinds; the first one is NotNull.
func three() []api.Col {
	return []api.Col{{Name: "a", Kind: api.VInt, NotNull: true}, {Name: "b", Kind: api.VBool}, {Name: "c", Kind: api.VText}}
}

// P12.1

func TestPlaceExamples(t *testing.T) {
	cols := []api.Col{{Name: "a", Kind: 1}, {Name: "b", Kind: 2}, {Name: "a", Kind: 3}, {Name: "c"}, {Name: ""}, {Name: "ab"}, {Name: "b\x00"}, {Name: "\xff"}, {Name: "\xc3\xa4"}, {Name: ""}}
	for _, c := range []struct {
		name string
		at   int
		ok   bool
	}{
		{"a", 0, true}, {"b", 1, true}, {"c", 3, true}, {"", 4, true}, {"ab", 5, true}, {"b\x00", 6, true}, {"\xff", 7, true}, {"\xc3\xa4", 8, true},
		{"A", 0, false}, {"d", 0, false}, {"a\x00", 0, false}, {"abc", 0, false}, {" a", 0, false}, {"\x00", 0, false}, {"\xfe", 0, false}, {"a\xcc\x88", 0, false}, {"\u00fd", 0, false}, {strings.Repeat("a", 100000), 0, false},
	} {
		if at, ok := cond.Place(cols, c.name); at != c.at || ok != c.ok {
			t.Errorf("Place of %q is %d, %v", c.name, at, ok)
		}
	}
	for _, name := range []string{"", "a"} {
		if at, ok := cond.Place(nil, name); at != 0 || ok {
			t.Errorf("Place of %q among no columns is %d, %v", name, at, ok)
		}
		if at, ok := cond.Place([]api.Col{}, name); at != 0 || ok {
			t.Errorf("Place of %q among no columns is %d, %v", name, at, ok)
		}
	}
}

// All lists of up to 4 columns of three names.
func TestPlaceOfAll(t *testing.T) {
	lists := [][]api.Col{nil}
	for i := 0; i < len(lists); i++ {
		cols := lists[i]
		for _, name := range []string{"", "a", "aa"} {
			want := place(cols, name)
			there := want < len(cols)
			if !there {
				want = 0
			}
			if at, ok := cond.Place(cols, name); at != want || ok != there {
				t.Fatalf("Place(%#v, %q) is %d, %v", cols, name, at, ok)
			}
			if len(cols) < 4 {
				lists = append(lists, append(slices.Clone(cols), api.Col{Name: name, Kind: len(cols)}))
			}
		}
	}
	many := make([]api.Col, 1000)
	many[999].Name = "last"
	if at, ok := cond.Place(many, "last"); at != 999 || !ok {
		t.Fatalf("Place of the last of 1000 columns is %d, %v", at, ok)
	}
}

func TestRightExamples(t *testing.T) {
	for _, c := range []struct {
		c    api.Cond
		want api.Errno
	}{
		{is("a", api.CEqual, num(2)), api.OK},
		{is("a", api.CUnlike, num(math.MinInt)), api.OK},
		{is("b", api.CBelow, truth(1)), api.OK},
		{is("c", api.CAbove, text("")), api.OK},
		{is("c", api.CEqual, text(strings.Repeat("x", 16))), api.OK},
		{is("a", api.CNull, api.Value{}), api.OK}, // NotNull isn't asked
		{is("c", api.CSome, api.Value{}), api.OK},
		{is("d", api.CEqual, num(2)), api.ErrNone},
		{is("", api.CNull, api.Value{}), api.ErrNone},
		{is("A", 0, api.Value{Kind: 9}), api.ErrNone}, // ahead of ErrForm
		{is("d", api.CEqual, text("x")), api.ErrNone},
		{is("a", 0, num(2)), api.ErrForm},
		{is("a", 7, num(2)), api.ErrForm},
		{is("a", 7, api.Value{}), api.ErrForm},
		{is("a", 0, api.Value{}), api.ErrForm},
		{is("a", -1, num(2)), api.ErrForm},
		{is("a", 9, text("x")), api.ErrForm}, // ahead of ErrType
		{is("a", api.CEqual, api.Value{}), api.ErrForm},
		{is("a", api.CUnlike, api.Value{}), api.ErrForm},
		{is("b", api.CBelow, api.Value{}), api.ErrForm},
		{is("c", api.CAbove, api.Value{}), api.ErrForm},
		{is("a", api.CNull, num(0)), api.ErrForm},
		{is("c", api.CSome, text("")), api.ErrForm},
		{is("c", api.CSome, num(0)), api.ErrForm}, // ahead of ErrType
		{is("a", api.CNull, api.Value{N: 1}), api.ErrForm},
		{is("a", api.CSome, api.Value{S: "x"}), api.ErrForm},
		{is("a", api.CEqual, api.Value{N: 1}), api.ErrForm},
		{is("b", api.CEqual, truth(2)), api.ErrForm},
		{is("a", api.CEqual, truth(2)), api.ErrForm}, // ahead of ErrType
		{is("c", api.CEqual, text(strings.Repeat("x", 17))), api.ErrForm},
		{is("a", api.CEqual, api.Value{Kind: 4}), api.ErrForm},
		{is("a", api.CEqual, truth(1)), api.ErrType},
		{is("a", api.CAbove, text("2")), api.ErrType},
		{is("b", api.CUnlike, num(1)), api.ErrType},
		{is("c", api.CBelow, num(1)), api.ErrType},
	} {
		if got := cond.Right([]api.Cond{c.c}, three()); got != c.want {
			t.Errorf("Right(%#v) is %d, not %d", c.c, got, c.want)
		}
	}
}

// All comparisons, and numbers that are none, with all values on columns of all Kinds.
func TestRightOfAll(t *testing.T) {
	for _, kind := range []int{math.MinInt, -1, 0, 1, 2, 3, 4, 256, 257, math.MaxInt} {
		for _, notNull := range []bool{false, true} {
			cols := []api.Col{{Name: "z", Kind: 9}, {Name: "a", Kind: kind, NotNull: notNull}}
			for _, op := range ops() {
				for _, with := range all() {
					c := is("a", op, with)
					if got, want := cond.Right([]api.Cond{c}, cols), rightOne(c, cols); got != want {
						t.Fatalf("Right(%#v, %#v) is %d, not %d", c, cols, got, want)
					}
					c.Col = "b"
					if got := cond.Right([]api.Cond{c}, cols); got != api.ErrNone {
						t.Fatalf("Right(%#v, %#v) is %d", c, cols, got)
					}
				}
			}
		}
	}
}

// faults: conditions on three's columns: two right ones, and one of each error.
func faults() []api.Cond {
	return []api.Cond{is("a", api.CEqual, num(1)), is("b", api.CSome, api.Value{}), is("d", api.CEqual, num(1)), is("a", 7, num(1)), is("a", api.CEqual, text("x"))}
}

// The first condition that isn't right tells: all lists of up to 4 of them.
func TestRightTellsTheFirst(t *testing.T) {
	lists := [][]api.Cond{nil}
	for i := 0; i < len(lists); i++ {
		l := lists[i]
		if got, want := cond.Right(l, three()), rightAll(l, three()); got != want {
			t.Fatalf("Right(%#v) is %d, not %d", l, got, want)
		}
		for _, c := range faults() {
			if len(l) < 4 {
				lists = append(lists, append(slices.Clone(l), c))
			}
		}
	}
}

func TestRightOfMany(t *testing.T) {
	for _, c := range faults() {
		want := rightOne(c, three())
		for length := 1; length <= 8; length++ {
			for at := range length {
				l := slices.Repeat(faults()[:1], length)
				l[at] = c
				if got := cond.Right(l, three()); got != want {
					t.Fatalf("Right of %d conditions with %#v at %d is %d, not %d", length, c, at, got, want)
				}
			}
		}
		for _, length := range []int{9, 10, 16, 17, 256, 264, 100000} {
			if got := cond.Right(slices.Repeat([]api.Cond{c}, length), three()); got != api.ErrMany {
				t.Fatalf("Right of %d conditions is %d", length, got)
			}
			if got := cond.Right(make([]api.Cond, length), nil); got != api.ErrMany {
				t.Fatalf("Right of %d conditions and no columns is %d", length, got)
			}
		}
	}
}

func TestRightWithoutAny(t *testing.T) {
	if a, b, c, d := cond.Right(nil, nil), cond.Right(nil, three()), cond.Right([]api.Cond{}, []api.Col{}), cond.Right([]api.Cond{}, three()); a != 0 || b != 0 || c != 0 || d != 0 {
		t.Error("Right of no conditions is", int(a), int(b), int(c), int(d))
	}
	if e := cond.Right(faults()[:1], nil); e != api.ErrNone {
		t.Error("Right of a condition and no columns is", int(e))
	}
	if e := cond.Right(make([]api.Cond, 8), nil); e != api.ErrNone {
		t.Error("Right of 8 conditions and no columns is", int(e))
	}
}

// Of several columns with one name the first one's Kind counts.
func TestRightOfTheFirstColumn(t *testing.T) {
	cols := []api.Col{{Name: "b", Kind: 2}, {Name: "a", Kind: 3}, {Name: "a", Kind: 1}, {Name: "", Kind: 1}}
	for _, c := range []struct {
		c    api.Cond
		want api.Errno
	}{
		{is("a", api.CEqual, text("x")), api.OK},
		{is("a", api.CEqual, num(1)), api.ErrType},
		{is("", api.CEqual, num(1)), api.OK},
		{is("", api.CEqual, truth(1)), api.ErrType},
	} {
		if got := cond.Right([]api.Cond{c.c}, cols); got != c.want {
			t.Errorf("Right(%#v) is %d, not %d", c.c, got, c.want)
		}
	}
}

// P12.2

func TestTruthExamples(t *testing.T) {
	r := api.Row{num(5), {}, text("ab")}
	for _, c := range []struct {
		c    api.Cond
		want int
	}{
		{is("a", api.CEqual, num(5)), 1},
		{is("a", api.CEqual, num(6)), 0},
		{is("a", api.CUnlike, num(5)), 0},
		{is("a", api.CUnlike, num(4)), 1},
		{is("a", api.CBelow, num(6)), 1},
		{is("a", api.CBelow, num(5)), 0},
		{is("a", api.CBelow, num(4)), 0},
		{is("a", api.CAbove, num(4)), 1},
		{is("a", api.CAbove, num(5)), 0},
		{is("a", api.CAbove, num(6)), 0},
		{is("a", api.CAbove, num(math.MinInt)), 1},
		{is("a", api.CNull, api.Value{}), 0},
		{is("a", api.CSome, api.Value{}), 1},
		{is("b", api.CNull, api.Value{}), 1},
		{is("b", api.CSome, api.Value{}), 0},
		{is("b", api.CAbove, num(3)), -1}, // the chapter's
		{is("b", api.CEqual, truth(1)), -1},
		{is("b", api.CUnlike, truth(1)), -1},
		{is("b", api.CBelow, truth(1)), -1},
		{is("b", api.CEqual, api.Value{}), -1},
		{is("b", api.CUnlike, api.Value{}), -1},
		{is("c", api.CEqual, text("ab")), 1},
		{is("c", api.CAbove, text("aa")), 1},
		{is("c", api.CBelow, text("abc")), 1},
		{is("c", api.CBelow, text("B")), 0},
		{is("c", api.CUnlike, text("AB")), 1},
		{is("a", api.CEqual, api.Value{}), -1},
		{is("a", api.CUnlike, text("5")), -1},
		{is("c", api.CUnlike, num(5)), -1},
		{is("c", api.CUnlike, text(strings.Repeat("x", 17))), -1},
		{is("a", api.CUnlike, api.Value{Kind: 1, N: 6, S: "x"}), -1},
		{is("d", api.CNull, api.Value{}), -1},
		{is("d", api.CSome, api.Value{}), -1},
		{is("", api.CUnlike, num(5)), -1},
		{is("a", 0, num(5)), -1},
		{is("a", 7, num(5)), -1},
		{is("b", 7, api.Value{}), -1},
		{is("a", -5, api.Value{}), -1},
		{is("a", api.CNull, num(5)), 0}, // of these two With isn't asked
		{is("b", api.CNull, text("x")), 1},
		{is("a", api.CSome, api.Value{Kind: 9}), 1},
		{is("b", api.CSome, num(5)), 0},
	} {
		checkTruth(t, c.c, three(), r, c.want)
	}
}

// checkTruth: what a condition is of a row, and what follows of it alone.
func checkTruth(t *testing.T, c api.Cond, cols []api.Col, r api.Row, want int) {
	t.Helper()
	if got := cond.Truth(c, cols, r); got != want {
		t.Fatalf("Truth(%#v, %#v, %#v) is %d, not %d", c, cols, r, got, want)
	}
	if got := cond.Holds([]api.Cond{c}, cols, r); got != (want == 1) {
		t.Fatalf("Holds(%#v, %#v, %#v) is %v", c, cols, r, got)
	}
	if got := cond.Refuses([]api.Cond{c}, cols, r); got != (want == 0) {
		t.Fatalf("Refuses(%#v, %#v, %#v) is %v", c, cols, r, got)
	}
}

// All comparisons, and numbers that are none, of all values with all values.
func TestTruthOfAll(t *testing.T) {
	cols := []api.Col{{Name: "z"}, {Name: "a", Kind: 1}}
	for _, op := range ops() {
		for _, v := range all() {
			for _, with := range all() {
				if got, want := cond.Truth(is("a", op, with), cols, api.Row{{}, v}), one(op, v, with); got != want {
					t.Fatalf("Truth of %#v by %d with %#v is %d, not %d", v, op, with, got, want)
				}
			}
		}
	}
}

// What is true of right values, worked out by hand: they stand in their order.
func TestTruthOfNeighbours(t *testing.T) {
	for _, list := range [][]api.Value{rights()[1:13], rights()[13:15], rights()[15:]} {
		for i, v := range list {
			for k, with := range list {
				wants := []int{0, 1, 0, 1}
				if i == k {
					wants = []int{1, 0, 0, 0}
				} else if i < k {
					wants = []int{0, 1, 1, 0}
				}
				for n, want := range wants {
					checkTruth(t, is("a", n+1, with), three(), api.Row{v}, want)
				}
			}
		}
	}
}

// Neither the column's Kind nor whether it may be null is asked, nor any other value of the row.
func TestTruthIsOfTheValueAlone(t *testing.T) {
	for _, col := range []api.Col{{Name: "a"}, {Name: "a", Kind: 1}, {Name: "a", Kind: 2, NotNull: true}, {Name: "a", Kind: 3, NotNull: true}, {Name: "a", Kind: 9}} {
		for _, other := range all() {
			for _, v := range []api.Value{{}, num(1), truth(1), text("a")} {
				for op := 1; op <= 6; op++ {
					c := is("a", op, v)
					checkTruth(t, c, []api.Col{{Name: "z"}, col, {Name: "y"}}, api.Row{other, v, other, other}, one(op, v, v))
				}
			}
		}
	}
}

// Columns and values of all numbers: a value that isn't there leaves it unknown.
func TestTruthOfAllPlaces(t *testing.T) {
	cols := []api.Col{{Name: "a"}, {Name: "b"}, {Name: "a"}, {Name: ""}, {Name: "d"}, {Name: "b"}, {Name: "e"}}
	r := api.Row{num(0), num(1), num(2), num(3), num(4), num(5), num(6), num(7), num(8)}
	for wide := range len(cols) + 1 {
		for long := range len(r) + 1 {
			for _, name := range []string{"a", "b", "", "d", "e", "f"} {
				for n := range 10 {
					for op := 1; op <= 6; op++ {
						c := is(name, op, num(n))
						checkTruth(t, c, cols[:wide], r[:long], of(c, cols[:wide], r[:long]))
					}
				}
			}
		}
	}
	checkTruth(t, is("b", api.CEqual, num(1)), cols, r[:2], 1)
	checkTruth(t, is("b", api.CEqual, num(5)), cols, r, 0) // the first column with that name
	checkTruth(t, is("b", api.CEqual, num(1)), cols, r[:1], -1)
	checkTruth(t, is("b", api.CNull, api.Value{}), cols, r[:1], -1)
	checkTruth(t, is("b", api.CSome, api.Value{}), cols, r[:1], -1)
	checkTruth(t, is("e", api.CSome, api.Value{}), cols[:6], r, -1)
	checkTruth(t, is("", api.CEqual, num(3)), cols, r, 1)
	checkTruth(t, is("a", api.CSome, api.Value{}), nil, r, -1)
	checkTruth(t, is("", api.CNull, api.Value{}), nil, nil, -1)
	checkTruth(t, api.Cond{}, nil, nil, -1)
	checkTruth(t, api.Cond{}, make([]api.Col, 1), make(api.Row, 1), -1)
}

// A row whose value has a null's Kind without being null isn't null.
func TestTruthOfWrongNulls(t *testing.T) {
	for _, v := range []api.Value{{N: 1}, {N: -1}, {S: "x"}, {S: "\x00"}} {
		checkTruth(t, is("a", api.CNull, api.Value{}), three(), api.Row{v}, 0)
		checkTruth(t, is("a", api.CSome, api.Value{}), three(), api.Row{v}, 1)
		for op := 1; op <= 4; op++ {
			checkTruth(t, is("a", op, v), three(), api.Row{v}, -1)
			checkTruth(t, is("a", op, num(1)), three(), api.Row{v}, -1)
		}
	}
}

// verdicts: conditions with what they are of the row of 5 and null.
func verdicts() ([]api.Cond, []int) {
	return []api.Cond{is("a", api.CEqual, num(5)), is("a", api.CEqual, num(6)), is("b", api.CEqual, truth(1)), is("b", api.CNull, api.Value{}), is("b", api.CSome, api.Value{}), is("d", api.CNull, api.Value{}), is("a", 0, num(5))},
		[]int{1, 0, -1, 1, 0, -1, -1}
}

// All lists of up to 4 conditions: all must be true, and one that is false refuses, wherever it stands.
func TestHoldsAndRefuses(t *testing.T) {
	conds, are := verdicts()
	lists := [][]int{nil}
	for i := 0; i < len(lists); i++ {
		var l []api.Cond
		holds, refuses := true, false
		for _, at := range lists[i] {
			l = append(l, conds[at])
			holds = holds && are[at] == 1
			refuses = refuses || are[at] == 0
		}
		checkAll(t, l, three(), api.Row{num(5), {}}, holds, refuses)
		for at := range conds {
			if len(l) < 4 {
				lists = append(lists, append(slices.Clone(lists[i]), at))
			}
		}
	}
}

func checkAll(t *testing.T, l []api.Cond, cols []api.Col, r api.Row, holds, refuses bool) {
	t.Helper()
	if got := cond.Holds(l, cols, r); got != holds {
		t.Fatalf("Holds of %d conditions %#v of %#v is %v", len(l), l[:min(len(l), 9)], r, got)
	}
	if got := cond.Refuses(l, cols, r); got != refuses {
		t.Fatalf("Refuses of %d conditions %#v of %#v is %v", len(l), l[:min(len(l), 9)], r, got)
	}
}

// One that isn't true among many others, at each place; more than 8, too: whether they are right isn't asked.
func TestHoldsAndRefusesOfMany(t *testing.T) {
	conds, are := verdicts()
	r := api.Row{num(5), {}}
	for _, length := range []int{1, 2, 7, 8, 9, 20, 1000} {
		for which, c := range conds {
			for _, at := range []int{0, length / 2, length - 1} {
				l := slices.Repeat(conds[:1], length)
				l[at] = c
				checkAll(t, l, three(), r, are[which] == 1, are[which] == 0)
			}
		}
	}
}

func TestHoldsAndRefusesOfNone(t *testing.T) {
	for _, cols := range [][]api.Col{nil, {}, three()} {
		for _, r := range []api.Row{nil, {}, {num(5)}, {{}, {}, {}}, {{Kind: 9}}} {
			checkAll(t, nil, cols, r, true, false)
			checkAll(t, []api.Cond{}, cols, r, true, false)
			checkAll(t, make([]api.Cond, 1), cols, r, false, false)
		}
	}
}

// P12.3

func checkEquals(t *testing.T, l []api.Cond, names []string, want api.Row, there bool) {
	t.Helper()
	if got, ok := cond.Equals(l, names); !slices.Equal(got, want) || ok != there {
		t.Fatalf("Equals(%#v, %#v) is %#v, %v, not %#v, %v", l, names, got, ok, want, there)
	}
}

func TestEqualsExamples(t *testing.T) {
	l := []api.Cond{
		is("a", api.CUnlike, num(1)), is("a", api.CBelow, num(2)), is("a", api.CAbove, num(3)), is("a", api.CNull, num(4)), is("a", api.CSome, num(5)), is("a", 0, num(6)), is("a", 7, num(7)), is("a", 257, num(8)),
		is("a", api.CEqual, num(9)), is("b", api.CEqual, text("x")), is("a", api.CEqual, num(10)), is("", api.CEqual, truth(1)), is("n", api.CEqual, api.Value{}), is("n", api.CEqual, num(11)), is("w", api.CEqual, api.Value{Kind: 9, N: 9, S: "w"}),
		is("u", api.CUnlike, num(12)), is("v", api.CSome, api.Value{}),
	}
	for _, c := range []struct {
		names []string
		want  api.Row
	}{
		{[]string{"a"}, api.Row{num(9)}},
		{[]string{"b"}, api.Row{text("x")}},
		{[]string{"a", "b"}, api.Row{num(9), text("x")}},
		{[]string{"b", "a"}, api.Row{text("x"), num(9)}},
		{[]string{"a", "a", "b", "a"}, api.Row{num(9), num(9), text("x"), num(9)}},
		{[]string{""}, api.Row{truth(1)}},
		{[]string{"n"}, api.Row{{}}},
		{[]string{"w"}, api.Row{{Kind: 9, N: 9, S: "w"}}},
		{[]string{"", "n", "w", "b", "a"}, api.Row{truth(1), {}, {Kind: 9, N: 9, S: "w"}, text("x"), num(9)}},
	} {
		checkEquals(t, l, c.names, c.want, true)
	}
	for _, names := range [][]string{nil, {}, {"c"}, {"A"}, {"u"}, {"v"}, {"a\x00"}, {"a", "c"}, {"c", "a"}, {"a", "b", "u"}, {"u", "a", "b"}, {"a", "v", "b"}} {
		checkEquals(t, l, names, nil, false)
	}
	for _, names := range [][]string{nil, {}, {""}, {"a"}, {"a", "b"}} {
		checkEquals(t, nil, names, nil, false)
		checkEquals(t, []api.Cond{}, names, nil, false)
	}
	checkEquals(t, make([]api.Cond, 3), []string{""}, nil, false)
}

// All lists of up to 4 conditions on two columns, with all lists of up to 3 names.
func TestEqualsOfAll(t *testing.T) {
	names := [][]string{nil}
	for i := 0; i < len(names); i++ {
		for _, name := range []string{"a", "b", "c"} {
			if len(names[i]) < 3 {
				names = append(names, append(slices.Clone(names[i]), name))
			}
		}
	}
	lists := [][]api.Cond{nil}
	for i := 0; i < len(lists); i++ {
		l := lists[i]
		for _, some := range names {
			want, ok := equals(l, some)
			checkEquals(t, l, some, want, ok)
		}
		for _, name := range []string{"a", "b"} {
			for _, op := range []int{api.CEqual, api.CUnlike, api.CNull} {
				if len(l) < 4 {
					lists = append(lists, append(slices.Clone(l), is(name, op, num(len(l)))))
				}
			}
		}
	}
}

// Of all comparisons just CEqual tells; whether With is right isn't asked.
func TestEqualsOfAllConditions(t *testing.T) {
	for _, op := range ops() {
		for _, with := range all() {
			l := []api.Cond{is("a", op, with)}
			if op == 1 {
				checkEquals(t, l, []string{"a", "a"}, api.Row{with, with}, true)
			} else {
				checkEquals(t, l, []string{"a"}, nil, false)
			}
		}
	}
}

func TestEqualsOfMany(t *testing.T) {
	var l []api.Cond
	var names []string
	var want api.Row
	for n := range 300 {
		name := strings.Repeat("n", n)
		l = append(l, is(name, api.CSome, num(-1)), is(name, api.CEqual, num(n)), is(name, api.CEqual, num(-n)))
		names, want = append(names, name), append(want, num(n))
	}
	checkEquals(t, l, names, want, true)
	slices.Reverse(names)
	slices.Reverse(want)
	checkEquals(t, l, names, want, true)
	checkEquals(t, l, append(names, "m"), nil, false)
	checkEquals(t, l[1:2], slices.Repeat([]string{""}, 1000), slices.Repeat(api.Row{num(0)}, 1000), true)
}

// P12.4

// roomy: conditions, columns, names and a row, each with more behind their length.
func roomy() ([]api.Cond, []api.Col, []string, api.Row) {
	l := []api.Cond{is("b", api.CEqual, text("x")), is("a", api.CEqual, num(7)), is("a", api.CAbove, num(3)), is("c", 9, api.Value{Kind: 9}), is("z", 1, num(1))}
	cols := []api.Col{{Name: "b", Kind: 3}, {Name: "a", Kind: 1, NotNull: true}, {Name: "a", Kind: 2}, {Name: "z", Kind: 1}}
	return l[:3], cols[:3], []string{"a", "b", "z"}[:2], api.Row{text("x"), num(7), {}, num(9)}[:3]
}

func TestHandedInStays(t *testing.T) {
	l, cols, names, r := roomy()
	if e := cond.Right(l, cols); e != api.OK {
		t.Error("Right:", int(e))
	}
	if n := cond.Truth(l[0], cols, r); n != 1 {
		t.Error("Truth:", n)
	}
	checkAll(t, l, cols, r, true, false)
	checkEquals(t, l, names, api.Row{num(7), text("x")}, true)
	if at, ok := cond.Place(cols, "z"); at != 0 || ok {
		t.Error("Place:", at, ok)
	}
	lWas, colsWere, namesWere, rWas := roomy()
	if !slices.Equal(l[:cap(l)], lWas[:cap(lWas)]) {
		t.Error("conditions were changed:", l[:cap(l)])
	}
	if !slices.Equal(cols[:cap(cols)], colsWere[:cap(colsWere)]) {
		t.Error("columns were changed:", cols[:cap(cols)])
	}
	if !slices.Equal(names[:cap(names)], namesWere[:cap(namesWere)]) {
		t.Error("names were changed:", names[:cap(names)])
	}
	if !slices.Equal(r[:cap(r)], rWas[:cap(rWas)]) {
		t.Error("a row was changed:", r[:cap(r)])
	}
}

// spoil: changes a row, its spare room too.
func spoil(r api.Row) {
	r = r[:cap(r)]
	for i := range r {
		r[i] = api.Value{Kind: -9, N: -9, S: "spoilt"}
	}
}

func TestAnswersAreNew(t *testing.T) {
	l, _, names, _ := roomy()
	for _, some := range [][]string{names[:1], names, {"a", "a", "b"}, slices.Repeat(names, 50)} {
		want, _ := equals(l, some)
		first, _ := cond.Equals(l, some)
		second, _ := cond.Equals(l, some)
		spoil(second)
		if !slices.Equal(first, want) {
			t.Errorf("an answer is %#v when another one was changed", first)
		}
		spoil(first)
		checkEquals(t, l, some, want, true)
	}
	was, _, _, _ := roomy()
	if !slices.Equal(l, was) {
		t.Error("conditions changed with an answer:", l)
	}
	got, _ := cond.Equals(l, names)
	clear(l[:cap(l)])
	clear(names[:cap(names)])
	if !slices.Equal(got, api.Row{num(7), text("x")}) {
		t.Errorf("an answer is %#v when what was handed in was changed", got)
	}
}

// A text's bytes are changed behind an answer's back: what was answered is its own, and what was handed in stays.
func TestTextsAreNew(t *testing.T) {
	memory := []byte("col and a value")
	whole := unsafe.String(&memory[0], len(memory))
	l, cols, r := []api.Cond{is(whole[:3], api.CEqual, text(whole[8:]))}, []api.Col{{Name: whole[:3], Kind: 3}}, api.Row{text(whole[8:])}
	if e := cond.Right(l, cols); e != api.OK {
		t.Error("Right:", int(e))
	}
	checkAll(t, l, cols, r, true, false)
	got, ok := cond.Equals(l, []string{whole[:3]})
	if string(memory) != "col and a value" {
		t.Errorf("what was handed in is %q now", memory)
	}
	clear(memory)
	if !ok || !slices.Equal(got, api.Row{text("a value")}) {
		t.Errorf("what was answered is %#v now", got)
	}
}

// P1: all calls end, and none panics, at any arguments; and what they come to is as told.

// checkCalls: all calls of one list of conditions.
func checkCalls(t *testing.T, l []api.Cond, cols []api.Col, r api.Row, names []string) {
	t.Helper()
	if got, want := cond.Right(l, cols), rightAll(l, cols); got != want {
		t.Fatalf("Right(%#v, %#v) is %d, not %d", l, cols, got, want)
	}
	holds, refuses := true, false
	for _, c := range l {
		want := of(c, cols, r)
		holds, refuses = holds && want == 1, refuses || want == 0
		checkTruth(t, c, cols, r, want)
	}
	checkAll(t, l, cols, r, holds, refuses)
	want, ok := equals(l, names)
	checkEquals(t, l, names, want, ok)
	for _, name := range names {
		at := place(cols, name)
		there := at < len(cols)
		if !there {
			at = 0
		}
		if got, ok := cond.Place(cols, name); got != at || ok != there {
			t.Fatalf("Place(%#v, %q) is %d, %v", cols, name, got, ok)
		}
	}
}

func TestWrongArguments(t *testing.T) {
	huge := strings.Repeat("x", 1<<12)
	for _, name := range []string{"", "a", "\x00", "\xff\xfe", "No name", huge} {
		for _, op := range ops() {
			for _, with := range []api.Value{{}, num(math.MinInt), {Kind: math.MaxInt, N: math.MinInt, S: "\xff"}} {
				c := is(name, op, with)
				for _, cols := range [][]api.Col{nil, {{Name: name, Kind: with.Kind}}, {{Name: "b"}, {Name: name, Kind: -1, NotNull: true}}} {
					for _, r := range []api.Row{nil, {with}, {{}, with}, {with, {}, {}}} {
						checkCalls(t, []api.Cond{c, c}, cols, r, []string{name, name})
					}
				}
			}
		}
	}
	c := is("a", api.CEqual, text(huge))
	checkCalls(t, []api.Cond{c}, three(), api.Row{text(huge)}, []string{"a"})
}

func FuzzTruth(f *testing.F) {
	f.Add("a", 1, 1, 5, "", "a", 1, 1, 5, "", true)
	f.Add("a", 4, 1, 3, "", "a", 1, 0, 0, "", false)
	f.Add("", 3, 3, 0, "ab", "b", 3, 3, 0, "a\xff", true)
	f.Add("z", -1, 4, math.MinInt, "xxxxxxxxxxxxxxxxx", "", math.MaxInt, -1, math.MaxInt, "\x00", false)
	f.Fuzz(func(t *testing.T, col string, op, withKind, withN int, withS, name string, colKind, kind, n int, s string, notNull bool) {
		with, v := api.Value{Kind: withKind, N: withN, S: withS}, api.Value{Kind: kind, N: n, S: s}
		cols := []api.Col{{Name: name, Kind: colKind, NotNull: notNull}, {Name: col, Kind: withKind}, {Name: "a", Kind: kind}}
		for _, c := range []api.Cond{is(col, op, with), is(name, op, with), is(name, op, v), is(name, op, api.Value{}), is(col, 1, v)} {
			for _, o := range []int{op, 1, 2, 3, 4, 5, 6} {
				c.Op = o
				for long := range 5 {
					checkCalls(t, []api.Cond{c}, cols[:min(long, 3)], api.Row{v, with, {}, v}[:long], []string{col, name})
				}
				checkCalls(t, []api.Cond{c}, cols, api.Row{with, v}, []string{name})
			}
		}
	})
}

// FuzzLists: bytes tell conditions, columns, a row and names.
func FuzzLists(f *testing.F) {
	f.Add([]byte{}, []byte{}, []byte{}, []byte{})
	f.Add([]byte{0, 0, 0, 65, 65, 65}, []byte{0, 1, 2}, []byte{1, 2, 3}, []byte{0, 1})
	f.Add(bytes.Repeat([]byte{10}, 30), []byte{0, 0, 3, 3}, []byte{9, 9, 9, 9, 9}, []byte{3, 2, 1, 0})
	f.Fuzz(func(t *testing.T, conds, columns, row, some []byte) {
		values := all()
		name := func(c byte) string { return []string{"a", "b", "", "\xff"}[c%4] }
		var l []api.Cond
		for i := 0; i+1 < min(len(conds), 60); i += 2 {
			l = append(l, is(name(conds[i]), int(conds[i]/4)%9, values[int(conds[i+1])%len(values)]))
		}
		var cols []api.Col
		for _, c := range columns[:min(len(columns), 20)] {
			cols = append(cols, api.Col{Name: name(c), Kind: int(c/4) % 5, NotNull: c > 127})
		}
		var r api.Row
		for _, c := range row[:min(len(row), 20)] {
			r = append(r, values[int(c)%len(values)])
		}
		var names []string
		for _, c := range some[:min(len(some), 20)] {
			names = append(names, name(c))
		}
		checkCalls(t, l, cols, r, names)
	})
}

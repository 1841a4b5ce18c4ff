package value_test

import (
	"bytes"
	"math"
	"math/big"
	"slices"
	"strconv"
	"strings"
	"testing"

	"interlock/api"
	"interlock/value"
)

func num(n int) api.Value { return api.Value{Kind: api.VInt, N: n} }

func truth(n int) api.Value { return api.Value{Kind: api.VBool, N: n} }

func text(s string) api.Value { return api.Value{Kind: api.VText, S: s} }

// rights: right values, each below those behind it.
func rights() []api.Value {
	list := []api.Value{{}}
	for _, n := range []int{math.MinInt, math.MinInt + 1, -1 << 32, -65, -64, -2, -1, 0, 1, 2, 3, 63, 64, 1 << 32, math.MaxInt - 1, math.MaxInt} {
		list = append(list, num(n))
	}
	list = append(list, truth(0), truth(1))
	for _, s := range []string{"", "\x00", "\x00\x00", "\x00\x01", "\x00a", "\x01", "\n", "\"", "A", "\\", "a", "a\x00", "aa", strings.Repeat("a", 7) + "b", "ab", "b", "null", strings.Repeat("x", 15), strings.Repeat("x", 16), "xy", "\x7f", "\xc3\xa4", "\xff", strings.Repeat("\xff", 16)} {
		list = append(list, text(s))
	}
	return list
}

// wrongs: values that aren't right.
func wrongs() []api.Value {
	return []api.Value{
		{Kind: api.VNull, N: 1}, {Kind: api.VNull, N: -1}, {Kind: api.VNull, S: "x"}, {Kind: api.VNull, N: math.MinInt, S: "\x00"},
		{Kind: api.VInt, S: "x"}, {Kind: api.VInt, N: 5, S: "\x00"},
		{Kind: api.VBool, N: 2}, {Kind: api.VBool, N: -1}, {Kind: api.VBool, N: math.MaxInt}, {Kind: api.VBool, N: 1, S: "x"}, {Kind: api.VBool, S: "0"},
		{Kind: api.VText, N: 1}, {Kind: api.VText, N: -1, S: "x"}, text(strings.Repeat("x", 17)), text(strings.Repeat("\x00", 1000)),
		{Kind: 4}, {Kind: 4, S: "x"}, {Kind: -1}, {Kind: -1, N: 1}, {Kind: 256}, {Kind: math.MaxInt}, {Kind: math.MinInt},
	}
}

func all() []api.Value { return append(rights(), wrongs()...) }

// isRight: as the chapter tells it, Kind by Kind.
func isRight(v api.Value) bool {
	isNull := v.Kind == 0 && v.N == 0 && v.S == ""
	isNumber := v.Kind == 1 && v.S == ""
	isTruth := v.Kind == 2 && (v.N == 0 || v.N == 1) && v.S == ""
	isText := v.Kind == 3 && v.N == 0 && len(v.S) <= 16
	return isNull || isNumber || isTruth || isText
}

// sign: of two numbers' difference, which may be above all numbers.
func sign(a, b int) int { return big.NewInt(int64(a)).Cmp(big.NewInt(int64(b))) }

// order: by Kind, then N, then S.
func order(a, b api.Value) int {
	if a.Kind != b.Kind {
		return sign(a.Kind, b.Kind)
	}
	if a.N != b.N {
		return sign(a.N, b.N)
	}
	return bytes.Compare([]byte(a.S), []byte(b.S))
}

// P4.1

func TestRight(t *testing.T) {
	for _, v := range rights() {
		if !value.Right(v) {
			t.Errorf("%#v isn't right", v)
		}
	}
	for _, v := range wrongs() {
		if value.Right(v) {
			t.Errorf("%#v is right", v)
		}
	}
}

func TestRightOfAllKinds(t *testing.T) {
	for kind := -3; kind <= 9; kind++ {
		for _, n := range []int{math.MinInt, -2, -1, 0, 1, 2, 3, 256, math.MaxInt} {
			for _, s := range []string{"", "\x00", "x", "0", strings.Repeat("x", 16), strings.Repeat("x", 17), strings.Repeat("\xc3\xa4", 9)} {
				v := api.Value{Kind: kind, N: n, S: s}
				if got := value.Right(v); got != isRight(v) {
					t.Errorf("Right(%#v) is %#v", v, got)
				}
			}
		}
	}
	for length := range 40 {
		if got := value.Right(text(strings.Repeat("\x00", length))); got != (length <= 16) {
			t.Errorf("Right of a text of %d bytes is %#v", length, got)
		}
	}
}

func TestRightRow(t *testing.T) {
	list := rights()
	for length := range 20 {
		want := length <= 8
		if got := value.RightRow(make(api.Row, length)); got != want {
			t.Errorf("RightRow of %d nulls is %#v", length, got)
		}
		if got := value.RightRow(list[len(list)-length:]); got != want {
			t.Errorf("RightRow of %d values is %#v", length, got)
		}
	}
	if !value.RightRow(nil) {
		t.Error("a row without values isn't right")
	}
	for _, v := range wrongs() {
		for length := 1; length <= 9; length++ {
			for at := range length {
				r := slices.Clone(list[len(list)-length:])
				r[at] = v
				if value.RightRow(r) {
					t.Errorf("a row of %d with %#v at %d is right", length, v, at)
				}
			}
		}
	}
}

func TestOrder(t *testing.T) {
	list := rights()
	for i, a := range list {
		for k, b := range list {
			if got := value.Order(a, b); got != sign(i, k) {
				t.Errorf("Order(%#v, %#v) is %d", a, b, got)
			}
		}
	}
}

func TestOrderOfWrongOnes(t *testing.T) {
	for _, c := range []struct {
		a, b api.Value
		want int
	}{
		{api.Value{Kind: -1, N: 9, S: "z"}, api.Value{}, -1},
		{api.Value{Kind: 4}, text("z"), 1},
		{api.Value{Kind: math.MinInt}, api.Value{Kind: math.MaxInt}, -1},
		{api.Value{Kind: 7, N: math.MaxInt}, api.Value{Kind: 7, N: math.MinInt}, 1},
		{api.Value{Kind: 7, N: 1, S: "z"}, api.Value{Kind: 7, N: 2, S: "a"}, -1},
		{api.Value{Kind: 7, N: 2, S: "ab"}, api.Value{Kind: 7, N: 2, S: "a"}, 1},
		{api.Value{Kind: 1, N: 5, S: "x"}, api.Value{Kind: 1, N: 5}, 1},
		{api.Value{Kind: 2, N: 2}, api.Value{Kind: 2, N: 1}, 1},
		{api.Value{Kind: 3, N: -1, S: "z"}, text("a"), -1},
		{text(strings.Repeat("x", 100)), text(strings.Repeat("x", 99)), 1},
		{api.Value{Kind: 7, N: 2, S: "a"}, api.Value{Kind: 7, N: 2, S: "a"}, 0},
	} {
		if got := value.Order(c.a, c.b); got != c.want {
			t.Errorf("Order(%#v, %#v) is %d, not %d", c.a, c.b, got, c.want)
		}
	}
	for _, a := range all() {
		for _, b := range all() {
			if got := value.Order(a, b); got != order(a, b) {
				t.Errorf("Order(%#v, %#v) is %d", a, b, got)
			}
		}
	}
}

func TestCompare(t *testing.T) {
	for _, a := range all() {
		for _, b := range all() {
			want, wantOK := 0, isRight(a) && isRight(b) && a.Kind == b.Kind && a.Kind != 0
			if wantOK {
				want = order(a, b)
			}
			if got, ok := value.Compare(a, b); got != want || ok != wantOK {
				t.Errorf("Compare(%#v, %#v) is %d, %#v", a, b, got, ok)
			}
		}
	}
}

func TestCompareExamples(t *testing.T) {
	for _, c := range []struct {
		a, b api.Value
		want int
		ok   bool
	}{
		{num(-1), num(1), -1, true},
		{num(1), num(1), 0, true},
		{truth(1), truth(0), 1, true},
		{text("a"), text("ab"), -1, true},
		{text("b"), text("ab"), 1, true},
		{api.Value{}, api.Value{}, 0, false},
		{api.Value{}, num(0), 0, false},
		{num(1), truth(1), 0, false},
		{num(1), text("1"), 0, false},
		{truth(1), truth(2), 0, false},
		{truth(2), truth(1), 0, false},
		{text("a"), text(strings.Repeat("x", 17)), 0, false},
		{api.Value{Kind: 4}, api.Value{Kind: 4, N: 1}, 0, false},
	} {
		if got, ok := value.Compare(c.a, c.b); got != c.want || ok != c.ok {
			t.Errorf("Compare(%#v, %#v) is %d, %#v", c.a, c.b, got, ok)
		}
	}
}

func TestOrderRows(t *testing.T) {
	// Each is below those behind it.
	list := []api.Row{
		nil,
		{{Kind: -1, N: 7, S: "z"}},
		{{}},
		{{}, {}},
		{{}, {}, {}},
		{{}, num(-1)},
		{num(1)},
		{num(1), {}},
		{num(1), text("z"), text("z")},
		{num(2)},
		{num(2), num(1)},
		{num(2), num(1), num(0)},
		{num(2), num(2)},
		{truth(0), text(strings.Repeat("z", 100))},
		{truth(1)},
		{text("a"), text("b")},
		{text("ab"), text("")},
		{{Kind: 4}},
		{{Kind: 4}, {Kind: 4}},
		make(api.Row, 9),
		make(api.Row, 10),
	}
	for i := range list[len(list)-2:] {
		list[len(list)-2+i][0] = api.Value{Kind: 4, N: 1}
	}
	for i, a := range list {
		for k, b := range list {
			if got := value.OrderRows(a, b); got != sign(i, k) {
				t.Errorf("OrderRows(%#v, %#v) is %d", a, b, got)
			}
		}
	}
	if got := value.OrderRows(nil, api.Row{}); got != 0 {
		t.Errorf("OrderRows of two rows without values is %d", got)
	}
}

// P4.2

// fits: the errors in their order.
func fits(v api.Value, c api.Col) api.Errno {
	switch {
	case !isRight(v):
		return api.ErrForm
	case v.Kind == 0 && c.NotNull:
		return api.ErrNull
	case v.Kind != 0 && v.Kind != c.Kind:
		return api.ErrType
	}
	return api.OK
}

func TestFits(t *testing.T) {
	for _, kind := range []int{math.MinInt, -1, 0, 1, 2, 3, 4, 256, math.MaxInt} {
		for _, notNull := range []bool{false, true} {
			for _, v := range all() {
				c := api.Col{Name: "a", Kind: kind, NotNull: notNull}
				if got := value.Fits(v, c); got != fits(v, c) {
					t.Errorf("Fits(%#v, %#v) is %d", v, c, got)
				}
			}
		}
	}
}

func TestFitsExamples(t *testing.T) {
	for _, c := range []struct {
		v    api.Value
		col  api.Col
		want api.Errno
	}{
		{num(5), api.Col{Kind: api.VInt}, api.OK},
		{num(5), api.Col{Kind: api.VInt, NotNull: true}, api.OK},
		{truth(1), api.Col{Kind: api.VBool}, api.OK},
		{text("x"), api.Col{Kind: api.VText, NotNull: true}, api.OK},
		{api.Value{}, api.Col{Kind: api.VText}, api.OK},
		{api.Value{}, api.Col{Kind: api.VText, NotNull: true}, api.ErrNull},
		{api.Value{}, api.Col{Kind: 9, NotNull: true}, api.ErrNull},
		{api.Value{}, api.Col{}, api.OK},
		{num(1), api.Col{Kind: api.VBool}, api.ErrType},
		{text("1"), api.Col{Kind: api.VInt, NotNull: true}, api.ErrType},
		{num(0), api.Col{}, api.ErrType},
		{api.Value{N: 1}, api.Col{Kind: api.VInt, NotNull: true}, api.ErrForm},
		{truth(2), api.Col{Kind: api.VText}, api.ErrForm},
		{text(strings.Repeat("x", 17)), api.Col{Kind: api.VText}, api.ErrForm},
		{api.Value{Kind: 4}, api.Col{Kind: 4}, api.ErrForm},
	} {
		if got := value.Fits(c.v, c.col); got != c.want {
			t.Errorf("Fits(%#v, %#v) is %d, not %d", c.v, c.col, got, c.want)
		}
	}
}

func TestFitsRow(t *testing.T) {
	cols := []api.Col{{Name: "a", Kind: api.VInt, NotNull: true}, {Name: "b", Kind: api.VText}, {Name: "c", Kind: api.VBool, NotNull: true}}
	for _, c := range []struct {
		r    api.Row
		want api.Errno
	}{
		{api.Row{num(1), text("x"), truth(0)}, api.OK},
		{api.Row{num(1), {}, truth(1)}, api.OK},
		{nil, api.ErrForm},
		{api.Row{num(1), text("x")}, api.ErrForm},
		{api.Row{num(1), text("x"), truth(0), {}}, api.ErrForm},
		{api.Row{{}, text("x")}, api.ErrForm},
		{api.Row{{}, num(1), {Kind: 9}}, api.ErrNull},
		{api.Row{text("x"), {Kind: 9}, {}}, api.ErrType},
		{api.Row{{Kind: 9}, num(1), {}}, api.ErrForm},
		{api.Row{num(1), num(1), {}}, api.ErrType},
		{api.Row{num(1), text("x"), {}}, api.ErrNull},
		{api.Row{num(1), text("x"), truth(2)}, api.ErrForm},
		{api.Row{num(1), text("x"), num(1)}, api.ErrType},
	} {
		if got := value.FitsRow(c.r, cols); got != c.want {
			t.Errorf("FitsRow(%#v) is %d, not %d", c.r, got, c.want)
		}
	}
	if got := value.FitsRow(nil, nil); got != api.OK {
		t.Errorf("FitsRow of no values and no columns is %d", got)
	}
	if got := value.FitsRow(nil, cols[:1]); got != api.ErrForm {
		t.Errorf("FitsRow of no values is %d", got)
	}
	// Whether the row is right as a whole isn't asked.
	if got := value.FitsRow(make(api.Row, 9), make([]api.Col, 9)); got != api.OK {
		t.Errorf("FitsRow of 9 values and 9 columns is %d", got)
	}
}

// P4.3

// numberBytes: a number's bytes, reckoned as chapter 1 tells them, in whole numbers without bounds.
func numberBytes(n int) []byte {
	u := new(big.Int).Mul(big.NewInt(2), big.NewInt(int64(n)))
	if n < 0 {
		u.Neg(u).Sub(u, big.NewInt(1))
	}
	var b []byte
	for {
		digit := new(big.Int)
		u.DivMod(u, big.NewInt(128), digit)
		if u.Sign() == 0 {
			return append(b, byte(digit.Int64()))
		}
		b = append(b, byte(digit.Int64()+128))
	}
}

// valueBytes: what a value has behind its Kind hangs on that.
func valueBytes(v api.Value) []byte {
	b := numberBytes(v.Kind)
	if v.Kind == 1 || v.Kind == 2 {
		b = append(b, numberBytes(v.N)...)
	}
	if v.Kind == 3 {
		b = append(append(b, numberBytes(len(v.S))...), v.S...)
	}
	return b
}

func rowBytes(r api.Row) []byte {
	b := numberBytes(len(r))
	for _, v := range r {
		b = append(b, valueBytes(v)...)
	}
	return b
}

// rows: right rows: of each value alone, of two of them, and of all lengths.
func rows() []api.Row {
	list := []api.Row{nil}
	values := rights()
	for i, v := range values {
		list = append(list, api.Row{v}, api.Row{v, values[(i*7+3)%len(values)]}, api.Row{{}, v})
	}
	for length := 3; length <= 8; length++ {
		for at := 0; at+length <= len(values); at += 3 {
			list = append(list, values[at:at+length])
		}
		list = append(list, make(api.Row, length), slices.Repeat(api.Row{text(strings.Repeat("x", 16))}, length))
	}
	return list
}

func TestEncodeExamples(t *testing.T) {
	for _, c := range []struct {
		r    api.Row
		want []byte
	}{
		{nil, []byte{0}},
		{api.Row{}, []byte{0}},
		{api.Row{{}}, []byte{2, 0}},
		{api.Row{num(0)}, []byte{2, 2, 0}},
		{api.Row{num(-1), num(64)}, []byte{4, 2, 1, 2, 128, 1}},
		{api.Row{num(math.MinInt)}, []byte{2, 2, 255, 255, 255, 255, 255, 255, 255, 255, 255, 1}},
		{api.Row{truth(0), truth(1)}, []byte{4, 4, 0, 4, 2}},
		{api.Row{text("")}, []byte{2, 6, 0}},
		{api.Row{text("ab"), {}}, []byte{4, 6, 4, 'a', 'b', 0}},
		{api.Row{text("\x00\xff")}, []byte{2, 6, 4, 0, 255}},
		{make(api.Row, 8), []byte{16, 0, 0, 0, 0, 0, 0, 0, 0}},
	} {
		if got, ok := value.Encode(c.r); !ok || !bytes.Equal(got, c.want) {
			t.Errorf("Encode(%#v) is %#v, %#v, not %#v", c.r, got, ok, c.want)
		}
		if got, ok := value.Decode(c.want); !ok || !slices.Equal(got, c.r) {
			t.Errorf("Decode(%#v) is %#v, %#v, not %#v", c.want, got, ok, c.r)
		}
	}
}

func TestEncode(t *testing.T) {
	for _, r := range rows() {
		got, ok := value.Encode(r)
		if want := rowBytes(r); !ok || !bytes.Equal(got, want) {
			t.Errorf("Encode(%#v) is %#v, %#v, not %#v", r, got, ok, want)
		}
	}
}

func TestEncodeWrong(t *testing.T) {
	for _, v := range wrongs() {
		for length := 1; length <= 8; length++ {
			r := make(api.Row, length)
			r[length/2] = v
			if b, ok := value.Encode(r); ok || len(b) != 0 {
				t.Errorf("Encode(%#v) is %#v, %#v", r, b, ok)
			}
		}
	}
	for _, length := range []int{9, 10, 64, 1000} {
		if b, ok := value.Encode(make(api.Row, length)); ok || len(b) != 0 {
			t.Errorf("Encode of %d nulls is %#v, %#v", length, b, ok)
		}
	}
}

func checkNoRow(t *testing.T, b []byte) {
	t.Helper()
	if r, ok := value.Decode(b); ok || len(r) != 0 {
		t.Errorf("Decode(%#v) is %#v, %#v", b, r, ok)
	}
}

func TestDecode(t *testing.T) {
	for _, r := range rows() {
		b := rowBytes(r)
		if got, ok := value.Decode(b); !ok || !slices.Equal(got, r) {
			t.Errorf("Decode(%#v) is %#v, %#v, not %#v", b, got, ok, r)
		}
		for length := range b {
			checkNoRow(t, b[:length])
		}
		for more := range 256 {
			checkNoRow(t, append(slices.Clone(b), byte(more)))
		}
	}
}

func TestDecodeWrong(t *testing.T) {
	for _, b := range [][]byte{
		nil,
		{1},       // -1 values
		{3},       // -2 values
		{2},       // a value, and none there
		{4, 0},    // two values, and one there
		{2, 0, 0}, // one value, and two there
		{128, 0},  // a number's last digit is 0
		{2, 128, 0},
		{2, 2, 128, 0},
		{2, 6, 128, 0},
		{130, 0, 0},      // 1 with a digit more than it needs
		{2, 2},           // a number, and none there
		{2, 2, 128},      // half of one
		{2, 4},           // a truth, and none there
		{2, 4, 1},        // a truth of -1
		{2, 4, 4},        // a truth of 2
		{2, 6},           // a text, and none there
		{2, 6, 1},        // a text of -1 bytes
		{2, 6, 2},        // a text of one byte, and none there
		{2, 6, 4, 'a'},   // a text of two bytes, and one there
		{2, 8},           // no Kind
		{2, 8, 0},        // no Kind, with a number
		{2, 1},           // a Kind of -1
		{2, 128, 4},      // a Kind of 256
		{4, 0, 2, 0, 0},  // bytes behind a row
		{4, 4, 2, 4, 4},  // one of two is wrong
		{0, 0},           // bytes behind a row without values
		{2, 2, 0, 2, 0},  // one value more than is told
		{2, 255, 255, 0}, // a Kind's last digit is 0
	} {
		checkNoRow(t, b)
	}
	for length := 9; length < 70; length++ {
		checkNoRow(t, append(numberBytes(length), make([]byte, length)...))
	}
	for _, v := range wrongs() {
		// Of a null and of a Kind that is none, what is wrong doesn't stand in the bytes.
		if v.Kind == 0 || v.Kind == 1 || v.Kind == 2 && isRight(truth(v.N)) || v.Kind == 3 && len(v.S) <= 16 {
			continue
		}
		checkNoRow(t, rowBytes(api.Row{v}))
		checkNoRow(t, rowBytes(api.Row{num(1), v, text("a")}))
	}
	checkNoRow(t, append([]byte{2, 6}, bytes.Repeat([]byte{255}, 30)...))
	checkNoRow(t, bytes.Repeat([]byte{255}, 30))
}

// All short texts of bytes: each that is a row's is Encode's of it.
func TestDecodeShort(t *testing.T) {
	count := 0
	for _, b := range shortBytes() {
		r, ok := value.Decode(b)
		if !ok {
			checkNoRow(t, b)
			continue
		}
		count++
		if !bytes.Equal(rowBytes(r), b) {
			t.Errorf("Decode(%#v) is %#v", b, r)
		}
	}
	// Of 3 bytes: a number of one byte, a truth, the text without bytes, two nulls.
	rowsOf3 := 128 + 2 + 1 + 1
	// Of fewer: no values, one null.
	if want := 1 + 1 + rowsOf3; count != want {
		t.Errorf("%d texts of up to 3 bytes are rows, not %d", count, want)
	}
}

// shortBytes: all of up to 3 bytes whose first one is no greater than 20.
func shortBytes() [][]byte {
	list := [][]byte{nil}
	for first := range 21 {
		list = append(list, []byte{byte(first)})
		for second := range 256 {
			list = append(list, []byte{byte(first), byte(second)})
			for third := range 256 {
				list = append(list, []byte{byte(first), byte(second), byte(third)})
			}
		}
	}
	return list
}

// P4.4

// shown: a text as the chapter shows it, byte by byte.
func shown(s string) string {
	out := "\""
	for i := range len(s) {
		c := s[i]
		if c < 32 || c > 126 || c == 34 || c == 92 {
			digits := strconv.FormatInt(int64(c), 16)
			out += "\\" + strings.Repeat("0", 2-len(digits)) + digits
		} else {
			out += string(rune(c))
		}
	}
	return out + "\""
}

func checkShow(t *testing.T, v api.Value, want string) {
	t.Helper()
	if got := value.Show(v); got != want {
		t.Errorf("Show(%#v) is %q, not %q", v, got, want)
	}
	if got, ok := value.Read(want); !ok || got != v {
		t.Errorf("Read(%q) is %#v, %#v, not %#v", want, got, ok, v)
	}
}

func TestShowExamples(t *testing.T) {
	for _, c := range []struct {
		v    api.Value
		want string
	}{
		{api.Value{}, `null`},
		{truth(0), `false`},
		{truth(1), `true`},
		{num(0), `0`},
		{num(7), `7`},
		{num(-12), `-12`},
		{num(1000000), `1000000`},
		{num(math.MaxInt), `9223372036854775807`},
		{num(math.MinInt), `-9223372036854775808`},
		{text(""), `""`},
		{text("ab"), `"ab"`},
		{text("a\"b"), `"a\22b"`},
		{text("a b"), `"a b"`},
		{text("\\"), `"\5c"`},
		{text("\x00\x1f \x7e\x7f\xff"), `"\00\1f ~\7f\ff"`},
		{text("\n\t"), `"\0a\09"`},
		{text("\u00e4"), `"\c3\a4"`},
		{text("null"), `"null"`},
		{text("5"), `"5"`},
		{text("?"), `"?"`},
		{text("\\22"), `"\5c22"`},
		{text("ABCabc'`09"), "\"ABCabc'`09\""},
		{text(strings.Repeat("\"", 16)), `"` + strings.Repeat(`\22`, 16) + `"`},
	} {
		checkShow(t, c.v, c.want)
	}
}

func TestShowAllBytes(t *testing.T) {
	for c := range 256 {
		for _, s := range []string{string([]byte{byte(c)}), string([]byte{'a', byte(c), '0'}), string([]byte{byte(c), byte(c)}), string(bytes.Repeat([]byte{byte(c)}, 16))} {
			checkShow(t, text(s), shown(s))
		}
	}
}

func TestShowNumbers(t *testing.T) {
	for bit := range 64 {
		for near := -2; near <= 2; near++ {
			n := 1<<bit + near
			checkShow(t, num(n), big.NewInt(int64(n)).String())
		}
	}
	for n := -1100; n <= 1100; n++ {
		checkShow(t, num(n), big.NewInt(int64(n)).String())
	}
}

func TestShowWrong(t *testing.T) {
	for _, v := range wrongs() {
		if got := value.Show(v); got != "?" {
			t.Errorf("Show(%#v) is %q", v, got)
		}
	}
}

func checkNoValue(t *testing.T, s string) {
	t.Helper()
	if v, ok := value.Read(s); ok || v != (api.Value{}) {
		t.Errorf("Read(%q) is %#v, %#v", s, v, ok)
	}
}

func TestReadWrong(t *testing.T) {
	for _, s := range []string{
		``, ` `, `?`, `nul`, `nulls`, `NULL`, `Null`, ` null`, `null `, `tru`, `True`, `TRUE`, `falsE`, `t`, `f`, "true\n", "\x00",
		`-`, `+`, `-0`, `+0`, `+1`, `01`, `00`, `-01`, `--1`, `1-`, `1 `, ` 1`, `1.0`, `1e3`, `0x1`, `1_000`, `1,000`, `a`, `1a`, `10b`, "1\x00",
		`9223372036854775808`, `-9223372036854775809`, `18446744073709551616`, `18446744073709551617`, `99999999999999999999999999`, `-99999999999999999999999999`,
		`"`, `""a`, `a""`, ` ""`, `"" `, `"a`, `a"`, `"""`, `"a"b"`, `""""`, `"a"b`, `'a'`, "`a`",
		`"\"`, `"\\"`, `"\2"`, `"\22`, `"\2`, `"\`, `"\4g"`, `"\g4"`, `"\g"`, `"\ 22"`, `"\x22"`, `"\n"`, `"\-1"`, `"\+1"`, `"\0x"`, `"\""`, `"\222`,
		`"\41"`, `"\20"`, `"\7e"`, `"\61"`, `"\30"`, // bytes that are shown as they are
		`"\FF"`, `"\5C"`, `"\fF"`, `"\0A"`,
		"\"\x00\"", "\"\n\"", "\"\x1f\"", "\"\x7f\"", "\"\x80\"", "\"\xff\"", "\"\u00e4\"",
		`"` + strings.Repeat("x", 17) + `"`, `"` + strings.Repeat(`\ff`, 17) + `"`, `"` + strings.Repeat("x", 1000) + `"`, `"` + strings.Repeat("x", 16) + `\00"`,
		strings.Repeat("1", 100000), strings.Repeat("\"", 100000), strings.Repeat("0", 100000),
	} {
		checkNoValue(t, s)
	}
	for c := range 256 {
		// A byte alone is a value's just if it is a digit, and one in quotes if it stands for itself.
		one := string([]byte{byte(c)})
		if c < '0' || c > '9' {
			checkNoValue(t, one)
		}
		if in := "\"" + one + "\""; shown(one) != in {
			checkNoValue(t, in)
		}
	}
}

// A byte more, fewer or another one leaves no value, but one that is shown just so.
func TestReadNearby(t *testing.T) {
	for _, v := range rights() {
		s := value.Show(v)
		for at := range len(s) {
			checkRead(t, s[:at])
			checkRead(t, s[at:])
			checkRead(t, s[:at]+s[at+1:])
			for c := range 256 {
				checkRead(t, s[:at]+string([]byte{byte(c)})+s[at:])
				checkRead(t, s[:at]+string([]byte{byte(c)})+s[at+1:])
			}
		}
	}
}

// checkRead: what is read is right, and shown so; else it is nought.
func checkRead(t *testing.T, s string) {
	t.Helper()
	v, ok := value.Read(s)
	if !ok {
		checkNoValue(t, s)
		return
	}
	if !isRight(v) || value.Show(v) != s {
		t.Errorf("Read(%q) is %#v", s, v)
	}
}

func TestReadAllPairsOfDigits(t *testing.T) {
	for high := range 256 {
		for low := range 256 {
			s := string([]byte{'"', '\\', byte(high), byte(low), '"'})
			n, err := strconv.ParseUint(s[2:4], 16, 8)
			want := text(string([]byte{byte(n)}))
			if err != nil || shown(want.S) != s {
				checkNoValue(t, s)
				continue
			}
			if v, ok := value.Read(s); !ok || v != want {
				t.Errorf("Read(%q) is %#v, %#v", s, v, ok)
			}
		}
	}
}

// P4.5

// roomy: a row with spare room behind it, and all of its memory.
func roomy() (api.Row, api.Row) {
	memory := api.Row{num(3), text("b"), {}, truth(1), num(1), text("a"), {Kind: 9}}
	return memory[:4], memory
}

func TestHandedInStays(t *testing.T) {
	r, memory := roomy()
	was := slices.Clone(memory)
	cols := []api.Col{{Name: "a", Kind: 1}, {Name: "b", Kind: 3}, {Name: "c", Kind: 1}, {Name: "d", Kind: 2}, {Name: "e", Kind: 1}}
	colsWere := slices.Clone(cols)
	value.RightRow(r)
	value.OrderRows(r, memory[4:5])
	value.FitsRow(r, cols[:4])
	value.Encode(r)
	if !slices.Equal(memory, was) {
		t.Error("a row was changed:", memory)
	}
	if !slices.Equal(cols, colsWere) {
		t.Error("columns were changed:", cols)
	}

	b := append(rowBytes(r), 7, 7, 7)
	bWas := slices.Clone(b)
	if got, ok := value.Decode(b[:len(b)-3]); !ok || !slices.Equal(got, r) {
		t.Error("Decode:", got, ok)
	}
	if !bytes.Equal(b, bWas) {
		t.Error("bytes were changed:", b)
	}
}

func TestHandedInIsNotKept(t *testing.T) {
	r, memory := roomy()
	want := rowBytes(r)
	b, _ := value.Encode(r)
	clear(memory)
	if !bytes.Equal(b, want) {
		t.Error("Encode kept its row:", b)
	}

	r, _ = roomy()
	got, _ := value.Decode(b)
	clear(b[:cap(b)])
	if !slices.Equal(got, r) {
		t.Error("Decode kept its bytes:", got)
	}
}

func TestAnswersAreNew(t *testing.T) {
	for _, r := range []api.Row{nil, {{}}, {num(1000), text("ab")}, make(api.Row, 8)} {
		want := rowBytes(r)
		first, _ := value.Encode(r)
		second, _ := value.Encode(r)
		second = second[:cap(second)]
		for i := range second {
			second[i] = 99
		}
		if again, _ := value.Encode(r); !bytes.Equal(first, want) || !bytes.Equal(again, want) {
			t.Error("two answers of Encode share memory:", first, again)
		}

		one, _ := value.Decode(want)
		other, _ := value.Decode(want)
		other = other[:cap(other)]
		for i := range other {
			other[i] = text("spoilt")
		}
		if again, _ := value.Decode(want); !slices.Equal(one, r) || !slices.Equal(again, r) {
			t.Error("two answers of Decode share memory:", one, again)
		}
	}
}

// P1: all calls end, and none panics, at any values, bytes and texts; and what they answer is as told.

func FuzzValues(f *testing.F) {
	f.Add(1, 5, "", 1, -5, "", 1, true)
	f.Add(3, 0, "ab", 3, 0, "a\x00\"\\", 3, false)
	f.Add(0, 0, "", 2, 1, "", 2, true)
	f.Add(-1, math.MinInt, "xxxxxxxxxxxxxxxxx", 4, math.MaxInt, "\xff", 0, false)
	f.Fuzz(func(t *testing.T, kind, n int, s string, otherKind, otherN int, otherS string, colKind int, notNull bool) {
		a, b := api.Value{Kind: kind, N: n, S: s}, api.Value{Kind: otherKind, N: otherN, S: otherS}
		c := api.Col{Kind: colKind, NotNull: notNull}
		if value.Right(a) != isRight(a) || value.Order(a, b) != order(a, b) || value.Fits(a, c) != fits(a, c) {
			t.Fatalf("%#v, %#v, %#v: Right %#v, Order %d, Fits %d", a, b, c, value.Right(a), value.Order(a, b), value.Fits(a, c))
		}
		if got, ok := value.Compare(a, b); ok != (isRight(a) && isRight(b) && kind == otherKind && kind != 0) || ok && got != order(a, b) || !ok && got != 0 {
			t.Fatalf("Compare(%#v, %#v) is %d, %#v", a, b, got, ok)
		}
		if got, ok := value.Read(value.Show(a)); ok != isRight(a) || ok && got != a {
			t.Fatalf("%#v is shown as %q and read as %#v, %#v", a, value.Show(a), got, ok)
		}
		r := api.Row{a, b}
		if value.RightRow(r) != (isRight(a) && isRight(b)) || value.OrderRows(r, r[:1]) != 1 || value.OrderRows(r, r) != 0 {
			t.Fatalf("%#v: RightRow %#v", r, value.RightRow(r))
		}
		e := fits(a, c)
		if e == api.OK {
			e = fits(b, c)
		}
		if got := value.FitsRow(r, []api.Col{c, c}); got != e {
			t.Fatalf("FitsRow(%#v, %#v) is %d, not %d", r, c, got, e)
		}
		bytesOf, ok := value.Encode(r)
		if ok != value.RightRow(r) || ok && !bytes.Equal(bytesOf, rowBytes(r)) || !ok && len(bytesOf) != 0 {
			t.Fatalf("Encode(%#v) is %#v, %#v", r, bytesOf, ok)
		}
		if again, back := value.Decode(bytesOf); back != ok || ok && !slices.Equal(again, r) {
			t.Fatalf("Decode(%#v) is %#v, %#v", bytesOf, again, back)
		}
	})
}

func FuzzDecode(f *testing.F) {
	f.Add([]byte{})
	f.Add([]byte{8, 0, 2, 128, 1, 4, 2, 6, 4, 'a', 'b'})
	f.Add(bytes.Repeat([]byte{255}, 30))
	f.Add(append([]byte{2, 6, 34}, strings.Repeat("x", 17)...))
	f.Fuzz(func(t *testing.T, b []byte) {
		r, ok := value.Decode(b)
		if !ok {
			checkNoRow(t, b)
			return
		}
		if !bytes.Equal(rowBytes(r), b) || len(r) > 8 || slices.ContainsFunc(r, func(v api.Value) bool { return !isRight(v) }) {
			t.Fatalf("Decode(%#v) is %#v", b, r)
		}
	})
}

func FuzzRead(f *testing.F) {
	for _, s := range []string{"", "null", "true", "-12", "01", `"a\22b"`, `"\4g"`, `"\`, `"`, "?", "9223372036854775808"} {
		f.Add(s)
	}
	f.Fuzz(func(t *testing.T, s string) { checkRead(t, s) })
}

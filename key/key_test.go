package key_test

import (
	"bytes"
	"math"
	"math/big"
	"slices"
	"strings"
	"testing"

	"interlock/api"
	"interlock/key"
)

func num(n int) api.Value { return api.Value{Kind: api.VInt, N: n} }

func truth(n int) api.Value { return api.Value{Kind: api.VBool, N: n} }

func text(s string) api.Value { return api.Value{Kind: api.VText, S: s} }

// rights: right values, each below those behind it.
func rights() []api.Value {
	list := []api.Value{{}}
	for _, n := range []int{math.MinInt, math.MinInt + 1, -1 << 56, -1 << 32, -65536, -257, -256, -255, -2, -1, 0, 1, 2, 127, 128, 255, 256, 257, 65535, 1 << 32, 1<<56 - 1, 1 << 56, math.MaxInt - 1, math.MaxInt} {
		list = append(list, num(n))
	}
	list = append(list, truth(0), truth(1))
	for _, s := range []string{
		"", "\x00", "\x00\x00", strings.Repeat("\x00", 16), "\x00\x00\x01", "\x00\x01", "\x00\x01\x00", "\x00\x02", "\x00a", "\x00\xff", "\x00\xff\x00\x01", "\x00\xff\xff",
		"\x01", "\x01\x00", "\x01\x01", "\x02", "\x03", "a", "a\x00", "a\x00\x00", "a\x00\x01", "a\x00b", "a\x00\xff", "a\x01", "a\x01\x00", "a\xff", "aa", "ab", strings.Repeat("b", 15), strings.Repeat("b", 16), "c",
		"\xfe", "\xff", "\xff\x00", "\xff\x00\x01", "\xff\x01", strings.Repeat("\xff", 15), strings.Repeat("\xff", 15) + "\x00", strings.Repeat("\xff", 16),
	} {
		list = append(list, text(s))
	}
	return list
}

// wrongs: values that aren't right.
func wrongs() []api.Value {
	return []api.Value{
		{N: 1}, {N: -1}, {S: "x"}, {N: math.MinInt, S: "\x00"},
		{Kind: api.VInt, S: "x"}, {Kind: api.VInt, N: 5, S: "\x00"},
		truth(2), truth(-1), truth(256), truth(257), truth(math.MaxInt), {Kind: api.VBool, N: 1, S: "x"},
		{Kind: api.VText, N: 1}, {Kind: api.VText, N: -1, S: "x"}, text(strings.Repeat("x", 17)), text(strings.Repeat("\x00", 1000)),
		{Kind: 4}, {Kind: -1}, {Kind: 255}, {Kind: 256}, {Kind: 257, N: 1}, {Kind: 259, S: "x"}, {Kind: math.MaxInt}, {Kind: math.MinInt},
	}
}

// isRight: as chapter 4 tells it, Kind by Kind.
func isRight(v api.Value) bool {
	isNull := v.Kind == 0 && v.N == 0 && v.S == ""
	isNumber := v.Kind == 1 && v.S == ""
	isTruth := v.Kind == 2 && (v.N == 0 || v.N == 1) && v.S == ""
	isText := v.Kind == 3 && v.N == 0 && len(v.S) <= 16
	return isNull || isNumber || isTruth || isText
}

func isRightRow(r api.Row) bool {
	return len(r) <= 8 && !slices.ContainsFunc(r, func(v api.Value) bool { return !isRight(v) })
}

// order: of values by Kind, then N, then S; of rows value by value, and a row is above its beginnings.
func order(a, b api.Row) int {
	for i := range min(len(a), len(b)) {
		if a[i].Kind != b[i].Kind {
			return sign(a[i].Kind, b[i].Kind)
		}
		if a[i].N != b[i].N {
			return sign(a[i].N, b[i].N)
		}
		if c := bytes.Compare([]byte(a[i].S), []byte(b[i].S)); c != 0 {
			return c
		}
	}
	return sign(len(a), len(b))
}

// sign: of two numbers' difference, which may be above all numbers.
func sign(a, b int) int { return big.NewInt(int64(a)).Cmp(big.NewInt(int64(b))) }

// keyOf: the chapter's words, in whole numbers without bounds.
func keyOf(r api.Row) string {
	var b []byte
	for _, v := range r {
		b = append(b, byte(v.Kind))
		if v.Kind == 1 {
			shifted := new(big.Int).Add(big.NewInt(int64(v.N)), new(big.Int).Lsh(big.NewInt(1), 63))
			b = append(b, shifted.FillBytes(make([]byte, 8))...)
		}
		if v.Kind == 2 {
			b = append(b, byte(v.N))
		}
		if v.Kind == 3 {
			b = append(b, textBytes(v.S)...)
		}
	}
	return string(b)
}

func textBytes(s string) []byte {
	var b []byte
	for i := range len(s) {
		b = append(b, s[i])
		if s[i] == 0 {
			b = append(b, 255)
		}
	}
	return append(b, 0, 1)
}

// rows: right rows: of each value alone, of two of them, and of all lengths.
func rows() []api.Row {
	list := []api.Row{nil}
	values := rights()
	for i, v := range values {
		list = append(list, api.Row{v}, api.Row{v, {}}, api.Row{v, v}, api.Row{v, values[(i*7+3)%len(values)]}, api.Row{{}, v}, api.Row{text("a"), v})
	}
	for length := 3; length <= 8; length++ {
		for at := 0; at+length <= len(values); at += 3 {
			list = append(list, values[at:at+length])
		}
		list = append(list, make(api.Row, length), slices.Repeat(api.Row{text(strings.Repeat("\x00", 16))}, length))
	}
	return list
}

// P5.1

func TestEncodeExamples(t *testing.T) {
	for _, c := range []struct {
		r    api.Row
		want string
	}{
		{nil, ""},
		{api.Row{}, ""},
		{api.Row{{}}, "\x00"},
		{api.Row{num(0)}, "\x01\x80\x00\x00\x00\x00\x00\x00\x00"},
		{api.Row{num(1)}, "\x01\x80\x00\x00\x00\x00\x00\x00\x01"},
		{api.Row{num(-1)}, "\x01\x7f\xff\xff\xff\xff\xff\xff\xff"},
		{api.Row{num(0x0102030405060708)}, "\x01\x81\x02\x03\x04\x05\x06\x07\x08"},
		{api.Row{num(math.MinInt)}, "\x01\x00\x00\x00\x00\x00\x00\x00\x00"},
		{api.Row{num(math.MaxInt)}, "\x01\xff\xff\xff\xff\xff\xff\xff\xff"},
		{api.Row{truth(0), truth(1)}, "\x02\x00\x02\x01"},
		{api.Row{text("")}, "\x03\x00\x01"},
		{api.Row{text("a")}, "\x03a\x00\x01"},
		{api.Row{text("\x00")}, "\x03\x00\xff\x00\x01"},
		{api.Row{text("\x01")}, "\x03\x01\x00\x01"},
		{api.Row{text("\x00\x01")}, "\x03\x00\xff\x01\x00\x01"},
		{api.Row{text("\x00\xff")}, "\x03\x00\xff\xff\x00\x01"},
		{api.Row{text("\xff"), {}, text("b\x00\x00"), num(-256)}, "\x03\xff\x00\x01\x00\x03b\x00\xff\x00\xff\x00\x01\x01\x7f\xff\xff\xff\xff\xff\xff\x00"},
		{make(api.Row, 8), strings.Repeat("\x00", 8)},
	} {
		if got, ok := key.Encode(c.r); !ok || got != c.want {
			t.Errorf("Encode(%#v) is %q, %#v, not %q", c.r, got, ok, c.want)
		}
		if got, ok := key.Decode(c.want); !ok || !slices.Equal(got, c.r) {
			t.Errorf("Decode(%q) is %#v, %#v, not %#v", c.want, got, ok, c.r)
		}
	}
}

func TestEncode(t *testing.T) {
	for _, r := range rows() {
		want := keyOf(r)
		if got, ok := key.Encode(r); !ok || got != want {
			t.Errorf("Encode(%#v) is %q, %#v, not %q", r, got, ok, want)
		}
		if got, ok := key.Decode(want); !ok || !slices.Equal(got, r) {
			t.Errorf("Decode(%q) is %#v, %#v, not %#v", want, got, ok, r)
		}
	}
}

func TestEncodeAllBits(t *testing.T) {
	for bit := range 64 {
		for near := -2; near <= 2; near++ {
			checkBoth(t, api.Row{num(1<<bit + near)})
		}
	}
	for c := range 256 {
		for _, s := range []string{string([]byte{byte(c)}), string([]byte{0, byte(c)}), string([]byte{byte(c), 0}), string([]byte{'a', byte(c), 0, 1}), string(bytes.Repeat([]byte{byte(c)}, 16))} {
			checkBoth(t, api.Row{text(s), {}})
		}
	}
}

// checkBoth: there and back.
func checkBoth(t *testing.T, r api.Row) {
	t.Helper()
	want := keyOf(r)
	if got, ok := key.Encode(r); !ok || got != want {
		t.Errorf("Encode(%#v) is %q, %#v, not %q", r, got, ok, want)
	}
	if got, ok := key.Decode(want); !ok || !slices.Equal(got, r) {
		t.Errorf("Decode(%q) is %#v, %#v, not %#v", want, got, ok, r)
	}
}

func TestEncodeWrong(t *testing.T) {
	for _, v := range wrongs() {
		for length := 1; length <= 9; length++ {
			for at := range length {
				r := make(api.Row, length)
				r[at] = v
				if s, ok := key.Encode(r); ok || s != "" {
					t.Errorf("Encode(%#v) is %q, %#v", r, s, ok)
				}
			}
		}
	}
	for _, length := range []int{9, 10, 16, 64, 1000} {
		for _, v := range []api.Value{{}, num(5), text("a")} {
			if s, ok := key.Encode(slices.Repeat(api.Row{v}, length)); ok || s != "" {
				t.Errorf("Encode of %d values is %q, %#v", length, s, ok)
			}
		}
	}
}

func checkNoRow(t *testing.T, s string) {
	t.Helper()
	if r, ok := key.Decode(s); ok || len(r) != 0 {
		t.Errorf("Decode(%q) is %#v, %#v", s, r, ok)
	}
}

// told: a reader of its own, byte by byte: are these a right row's bytes, and how many values has it?
func told(s string) (int, bool) {
	count := 0
	for ; s != ""; count++ {
		length, ok := valueLength(s)
		if !ok {
			return 0, false
		}
		s = s[length:]
	}
	return count, count <= 8
}

// valueLength: how many bytes has the right value that stands first?
func valueLength(s string) (int, bool) {
	switch s[0] {
	case 0:
		return 1, true
	case 1:
		return 9, len(s) >= 9
	case 2:
		return 2, len(s) >= 2 && s[1] <= 1
	case 3:
		return textLength(s)
	}
	return 0, false
}

func textLength(s string) (int, bool) {
	count := 0
	for i := 1; i < len(s); i++ {
		if s[i] == 0 {
			i++
			if i < len(s) && s[i] == 1 {
				return i + 1, count <= 16
			}
			if i >= len(s) || s[i] != 255 {
				return 0, false
			}
		}
		count++
	}
	return 0, false
}

// checkDecode: a row's bytes are Encode's of it; others are none's.
func checkDecode(t *testing.T, s string) {
	t.Helper()
	count, ok := told(s)
	if !ok {
		checkNoRow(t, s)
		return
	}
	if r, got := key.Decode(s); !got || len(r) != count || !isRightRow(r) || keyOf(r) != s {
		t.Errorf("Decode(%q) is %#v, %#v", s, r, got)
	}
}

func TestDecodeWrong(t *testing.T) {
	for _, s := range []string{
		"\x04", "\x05", "\x7f", "\x80", "\xff", "a", " ", "\x00\x04", "\x04\x00", "\x01\x80\x00\x00\x00\x00\x00\x00\x00\x04",
		"\x01", "\x01\x80", "\x01\x80\x00\x00\x00\x00\x00\x00", "\x00\x01\x80\x00\x00\x00\x00\x00\x00",
		"\x02", "\x02\x02", "\x02\x03", "\x02\x80", "\x02\xff", "\x02\x00\x02", "\x02\x01\x02\x02", "\x00\x02",
		"\x03", "\x03\x00", "\x03\x01", "\x03a", "\x03a\x00", "\x03a\x01", "\x03\x00\xff", "\x03\x00\xff\x00", "\x03a\x00\x02", "\x03a\x00\x00\x01", "\x03\x00\x00\x01", "\x03a\x00\xfe\x00\x01", "\x03a\x00a\x00\x01", "\x03\x00\x00\xff\x00\x01",
		"\x03a\x00\x01\x01", "\x03a\x00\x01\x02", "\x03a\x00\x01\x03", "\x03a\x00\x01a", "\x03a\x00\x01\xff",
		"\x03" + strings.Repeat("x", 17) + "\x00\x01", "\x03" + strings.Repeat("\x00\xff", 17) + "\x00\x01", "\x00\x03" + strings.Repeat("\xff", 17) + "\x00\x01", "\x03" + strings.Repeat("x", 16) + "\x00\xff\x00\x01",
		"\x03" + strings.Repeat("x", 16), "\x03" + strings.Repeat("x", 100000), "\x03" + strings.Repeat("x", 100000) + "\x00\x01", "\x03" + strings.Repeat("\x00\xff", 100000) + "\x00\x01",
		strings.Repeat("\x00", 9), strings.Repeat("\x00", 10), strings.Repeat("\x00", 100000), strings.Repeat("\x02\x01", 9), strings.Repeat("\x03a\x00\x01", 9), strings.Repeat("\x01\x80\x00\x00\x00\x00\x00\x00\x05", 9),
		strings.Repeat("\x00", 8) + "\x04", strings.Repeat("\x00", 8) + "\x01", strings.Repeat("\x00", 8) + "\xff",
		strings.Repeat("\x01", 100000), strings.Repeat("\x02", 100000), strings.Repeat("\x03", 100000), strings.Repeat("\xff", 100000),
	} {
		checkNoRow(t, s)
	}
}

// A byte more, fewer or another one leaves no row, but one whose bytes they are.
func TestDecodeNearby(t *testing.T) {
	for _, r := range rows() {
		s := keyOf(r)
		for at := range len(s) {
			checkDecode(t, s[:at])
			checkDecode(t, s[at:])
			checkDecode(t, s[:at]+s[at+1:])
			for _, c := range []byte{0, 1, 2, 3, 4, 5, 'a', 127, 128, 254, 255} {
				one := string([]byte{c})
				checkDecode(t, s[:at]+one+s[at:])
				checkDecode(t, s[:at]+one+s[at+1:])
				checkDecode(t, s+one)
			}
		}
	}
}

// All of up to 2 bytes; of 3 those that begin with a Kind; and texts of up to 3 bytes.
func TestDecodeShort(t *testing.T) {
	checkDecode(t, "")
	for a := range 256 {
		checkDecode(t, string([]byte{byte(a)}))
		for b := range 256 {
			checkDecode(t, string([]byte{byte(a), byte(b)}))
			checkDecode(t, string([]byte{3, byte(a), byte(b), 0, 1}))
			for c := range 5 {
				checkDecode(t, string([]byte{byte(c), byte(a), byte(b)}))
				checkDecode(t, string([]byte{3, 0, byte(c - 1), byte(a), byte(b)}))
				checkDecode(t, string([]byte{3, byte(c - 1), byte(a), byte(b), 0, 1}))
			}
		}
	}
}

// P5.2

func TestKeysAreOrderedAsRows(t *testing.T) {
	list := rows()
	keys := make([]string, len(list))
	for i, r := range list {
		keys[i], _ = key.Encode(r)
	}
	for i, a := range list {
		for k, b := range list {
			want := order(a, b)
			if got := strings.Compare(keys[i], keys[k]); got != want {
				t.Fatalf("the keys of %#v and %#v are %d to one another, not %d", a, b, got, want)
			}
		}
	}
}

func TestKeysAreOrderedExamples(t *testing.T) {
	// Each is below those behind it.
	list := []api.Row{
		nil, {{}}, {{}, {}}, {{}, num(math.MinInt)}, {{}, num(0)}, {{}, text("")},
		{num(math.MinInt)}, {num(-256)}, {num(-1)}, {num(-1), {}}, {num(-1), text("z")}, {num(0)}, {num(255)}, {num(256)}, {num(math.MaxInt)}, {num(math.MaxInt), truth(1)},
		{truth(0)}, {truth(0), text("z")}, {truth(1)}, {truth(1), truth(0)},
		{text("")}, {text(""), {}}, {text(""), text("z")}, {text("\x00")}, {text("\x00"), {}}, {text("\x00\x00")}, {text("\x00\x01")}, {text("\x00\xff")}, {text("\x01")},
		{text("a")}, {text("a"), {}}, {text("a"), text("z")}, {text("a\x00")}, {text("a\x00"), num(5)}, {text("a\x00\x01")}, {text("a\x00a")}, {text("a\x01")}, {text("aa")}, {text("b")}, {text("\xff")}, {text("\xff\xff")},
	}
	last := ""
	for i, r := range list {
		s, ok := key.Encode(r)
		if !ok || i > 0 && s <= last {
			t.Errorf("the key of %#v is %q, %#v", r, s, ok)
		}
		last = s
	}
}

// P5.3

func TestPick(t *testing.T) {
	r := api.Row{num(1), text("b"), {}, truth(1)}
	for _, c := range []struct {
		r    api.Row
		at   []int
		want api.Row
		ok   bool
	}{
		{r, []int{0}, api.Row{num(1)}, true},
		{r, []int{3}, api.Row{truth(1)}, true},
		{r, []int{0, 1, 2, 3}, r, true},
		{r, []int{3, 2, 1, 0}, api.Row{truth(1), {}, text("b"), num(1)}, true},
		{r, []int{1, 1, 3, 1}, api.Row{text("b"), text("b"), truth(1), text("b")}, true},
		{r, nil, nil, true},
		{r, []int{}, nil, true},
		{nil, nil, nil, true},
		{nil, []int{}, nil, true},
		{nil, []int{0}, nil, false},
		{nil, []int{-1}, nil, false},
		{api.Row{}, []int{0}, nil, false},
		{r, []int{4}, nil, false},
		{r, []int{-1}, nil, false},
		{r, []int{0, 4}, nil, false},
		{r, []int{0, 1, -1, 2}, nil, false},
		{r, []int{4, 0, 1}, nil, false},
		{r, []int{math.MaxInt}, nil, false},
		{r, []int{math.MinInt}, nil, false},
		{r, []int{0, math.MinInt, 1}, nil, false},
		{r, []int{1 << 32}, nil, false},
		{r, []int{-4}, nil, false},
		// Whether the row is right isn't asked, nor how many values are picked.
		{api.Row{{Kind: 9, N: 1, S: "x"}, truth(2)}, []int{1, 0}, api.Row{truth(2), {Kind: 9, N: 1, S: "x"}}, true},
		{slices.Repeat(r, 5), []int{19, 8}, api.Row{truth(1), num(1)}, true},
		{r[:1], slices.Repeat([]int{0}, 100), slices.Repeat(r[:1], 100), true},
		// What lies behind a row's length is no place of it.
		{r[:2], []int{2}, nil, false},
		{r[:0], []int{0}, nil, false},
	} {
		if got, ok := key.Pick(c.r, c.at); ok != c.ok || !slices.Equal(got, c.want) {
			t.Errorf("Pick(%#v, %#v) is %#v, %#v, not %#v, %#v", c.r, c.at, got, ok, c.want, c.ok)
		}
	}
}

func TestPickAllPairs(t *testing.T) {
	r := rights()
	for a := -3; a < len(r)+3; a++ {
		for b := -3; b < len(r)+3; b++ {
			got, ok := key.Pick(r, []int{a, b})
			if a < 0 || b < 0 || a >= len(r) || b >= len(r) {
				if ok || len(got) != 0 {
					t.Errorf("Pick at %d, %d is %#v, %#v", a, b, got, ok)
				}
				continue
			}
			if want := (api.Row{r[a], r[b]}); !ok || !slices.Equal(got, want) {
				t.Errorf("Pick at %d, %d is %#v, %#v", a, b, got, ok)
			}
		}
	}
}

func TestNext(t *testing.T) {
	for _, s := range []string{"", "a", "ab", "\x00", "\x03a\x00\x01", "\xff", "\xff\xff", strings.Repeat("x", 10000)} {
		if got := key.Next(s); got != s+"\xff" {
			t.Errorf("Next(%q) is %q", s, got)
		}
	}
	list := rows()
	for _, a := range list {
		s, _ := key.Encode(a)
		next := key.Next(s)
		for _, b := range list {
			other, _ := key.Encode(b)
			// Above those that begin with it, and below those that are above it and don't.
			begins := strings.HasPrefix(other, s)
			if got := other < next; got != (begins || other < s) {
				t.Fatalf("the key %q is below Next(%q): %#v", other, s, got)
			}
		}
	}
}

// P5.4

// roomy: a row with spare room behind it, and all of its memory.
func roomy() (api.Row, api.Row) {
	memory := api.Row{num(3), text("b"), {}, truth(1), num(1), text("a"), {Kind: 9}}
	return memory[:4], memory
}

func TestHandedInStays(t *testing.T) {
	r, memory := roomy()
	was := slices.Clone(memory)
	places := []int{3, 0, 1, 0, 7, 8}
	placesWere := slices.Clone(places)
	key.Encode(r)
	key.Pick(r, places[:3])
	key.Pick(r, places)
	key.Pick(r, nil)
	if !slices.Equal(memory, was) {
		t.Error("a row was changed:", memory)
	}
	if !slices.Equal(places, placesWere) {
		t.Error("places were changed:", places)
	}
}

func TestHandedInIsNotKept(t *testing.T) {
	r, memory := roomy()
	want := keyOf(r)
	places := []int{1, 0}
	s, _ := key.Encode(r)
	picked, _ := key.Pick(r, places)
	clear(memory)
	clear(places)
	if s != want {
		t.Errorf("Encode kept its row: %q", s)
	}
	if !slices.Equal(picked, api.Row{text("b"), num(3)}) {
		t.Errorf("Pick kept its row: %#v", picked)
	}
}

func spoil(r api.Row) {
	r = r[:cap(r)]
	for i := range r {
		r[i] = text("spoilt")
	}
}

func TestAnswersAreNew(t *testing.T) {
	for _, r := range []api.Row{nil, {{}}, {num(1000), text("a\x00b")}, make(api.Row, 8)} {
		s := keyOf(r)
		one, _ := key.Decode(s)
		other, _ := key.Decode(s)
		spoil(other)
		if again, _ := key.Decode(s); !slices.Equal(one, r) || !slices.Equal(again, r) {
			t.Error("two answers of Decode share memory:", one, again)
		}
	}
	for _, places := range [][]int{nil, {0}, {0, 1, 2, 3}, {2, 2}} {
		r, memory := roomy()
		was := slices.Clone(memory)
		one, _ := key.Pick(r, places)
		want := slices.Clone(one)
		other, _ := key.Pick(r, places)
		spoil(other)
		if !slices.Equal(memory, was) {
			t.Error("Pick's answer is its row's memory:", memory)
		}
		if again, _ := key.Pick(r, places); !slices.Equal(one, want) || !slices.Equal(again, want) {
			t.Error("two answers of Pick share memory:", one, again)
		}
	}
}

// P1: all calls end, and none panics, at any values, bytes and places; and what they answer is as told.

func FuzzRows(f *testing.F) {
	f.Add(1, 5, "", 1, -5, "", 0)
	f.Add(3, 0, "ab", 3, 0, "a\x00\xff\x00\x01", 1)
	f.Add(0, 0, "", 2, 1, "", 2)
	f.Add(-1, math.MinInt, "xxxxxxxxxxxxxxxxx", 257, math.MaxInt, "\xff", -1)
	f.Fuzz(func(t *testing.T, kind, n int, s string, otherKind, otherN int, otherS string, at int) {
		a, b := api.Value{Kind: kind, N: n, S: s}, api.Value{Kind: otherKind, N: otherN, S: otherS}
		list := []api.Row{{a}, {b}, {a, b}, {b, a}, {a, {}, b}}
		for _, r := range list {
			got, ok := key.Encode(r)
			if ok != isRightRow(r) || ok && got != keyOf(r) || !ok && got != "" {
				t.Fatalf("Encode(%#v) is %q, %#v", r, got, ok)
			}
			if again, back := key.Decode(got); ok && (!back || !slices.Equal(again, r)) {
				t.Fatalf("Decode(%q) is %#v, %#v", got, again, back)
			}
			for _, other := range list {
				otherKey, fine := key.Encode(other)
				if ok && fine && strings.Compare(got, otherKey) != order(r, other) {
					t.Fatalf("%#v and %#v have the keys %q and %q", r, other, got, otherKey)
				}
			}
		}
		picked, ok := key.Pick(api.Row{a, b}, []int{1, at})
		if isPlace := at == 0 || at == 1; ok != isPlace || isPlace && !slices.Equal(picked, api.Row{b, api.Row{a, b}[at]}) || !isPlace && len(picked) != 0 {
			t.Fatalf("Pick at %d is %#v, %#v", at, picked, ok)
		}
	})
}

func FuzzDecode(f *testing.F) {
	f.Add("")
	f.Add("\x00\x01\x80\x00\x00\x00\x00\x00\x00\x05\x02\x01\x03a\x00\xffb\x00\x01")
	f.Add(strings.Repeat("\xff", 30))
	f.Add("\x03" + strings.Repeat("x", 17) + "\x00\x01")
	f.Fuzz(func(t *testing.T, s string) {
		checkDecode(t, s)
		if got := key.Next(s); got != s+"\xff" {
			t.Fatalf("Next(%q) is %q", s, got)
		}
	})
}

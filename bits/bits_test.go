package bits_test

import (
	"bytes"
	"math"
	"math/big"
	"slices"
	"strings"
	"testing"

	"interlock/bits"
)

// asTold: a number's bytes, reckoned as the chapter tells them, in whole numbers without bounds.
func asTold(n int) []byte {
	u := new(big.Int).Mul(big.NewInt(2), big.NewInt(int64(n)))
	if n < 0 {
		u.Neg(u).Sub(u, big.NewInt(1))
	}
	var b []byte
	for {
		digit := new(big.Int)
		u.DivMod(u, big.NewInt(128), digit)
		if u.Sign() == 0 {
			return append(b, byte(digit.Int64()))
		}
		b = append(b, byte(digit.Int64()+128))
	}
}

// edges: numbers near all powers of two, above and below 0, with the least and the greatest one.
func edges() []int {
	var list []int
	for bit := range 64 {
		for near := -2; near <= 2; near++ {
			n := 1<<bit + near
			list = append(list, n, -n)
		}
	}
	return append(list, math.MaxInt, math.MaxInt-1, math.MinInt, math.MinInt+1)
}

func checkBad(t *testing.T, what string, r *bits.Reader) {
	t.Helper()
	if !r.Bad() || r.Done() || r.Left() != 0 {
		t.Errorf("%s: Bad %v, Done %v, Left %d", what, r.Bad(), r.Done(), r.Left())
	}
}

// checkSpent: a bad reader answers nothing, whatever is asked of it, and stays bad.
func checkSpent(t *testing.T, what string, r *bits.Reader) {
	t.Helper()
	checkBad(t, what, r)
	for range 2 {
		if n := r.Int(); n != 0 {
			t.Errorf("%s: then Int %d", what, n)
		}
		if s := r.Text(); s != "" {
			t.Errorf("%s: then Text %q", what, s)
		}
		if n := r.Count(math.MaxInt); n != 0 {
			t.Errorf("%s: then Count %d", what, n)
		}
		if list := r.Texts(); len(list) != 0 {
			t.Errorf("%s: then Texts %q", what, list)
		}
		checkBad(t, what, r)
	}
}

func checkLeft(t *testing.T, what string, r *bits.Reader, left int) {
	t.Helper()
	if r.Bad() || r.Left() != left || r.Done() != (left == 0) {
		t.Errorf("%s: Bad %v, Done %v, Left %d, not %d", what, r.Bad(), r.Done(), r.Left(), left)
	}
}

// P1.1

func TestIntExamples(t *testing.T) {
	for _, c := range []struct {
		n    int
		want []byte
	}{
		{0, []byte{0}},
		{-1, []byte{1}},
		{1, []byte{2}},
		{63, []byte{126}},
		{-64, []byte{127}},
		{64, []byte{128, 1}},
		{-65, []byte{129, 1}},
		{8191, []byte{254, 127}},
		{-8192, []byte{255, 127}},
		{8192, []byte{128, 128, 1}},
		{math.MaxInt, []byte{254, 255, 255, 255, 255, 255, 255, 255, 255, 1}},
		{math.MinInt, []byte{255, 255, 255, 255, 255, 255, 255, 255, 255, 1}},
	} {
		if got := bits.Int(c.n); !bytes.Equal(got, c.want) {
			t.Errorf("Int(%d) is %v, not %v", c.n, got, c.want)
		}
	}
}

func TestIntEdges(t *testing.T) {
	lengths := make(map[int]int)
	for _, n := range edges() {
		got := bits.Int(n)
		if want := asTold(n); !bytes.Equal(got, want) {
			t.Errorf("Int(%d) is %v, not %v", n, got, want)
		}
		lengths[len(got)]++
	}
	for length := 1; length <= 10; length++ {
		if lengths[length] == 0 {
			t.Errorf("no number of %d bytes was tried", length)
		}
	}
}

func TestTextBytes(t *testing.T) {
	for _, c := range []struct {
		s    string
		want []byte
	}{
		{"", []byte{0}},
		{"ab", []byte{4, 'a', 'b'}},
		{"\x00\xff\"\n", []byte{8, 0, 255, '"', '\n'}},
		{"\u00e4", []byte{4, 0xc3, 0xa4}},
		{strings.Repeat("x", 63), append([]byte{126}, strings.Repeat("x", 63)...)},
		{strings.Repeat("x", 64), append([]byte{128, 1}, strings.Repeat("x", 64)...)},
		{strings.Repeat("x", 8192), append([]byte{128, 128, 1}, strings.Repeat("x", 8192)...)},
	} {
		if got := bits.Text(c.s); !bytes.Equal(got, c.want) {
			t.Errorf("Text of %d bytes: %v", len(c.s), got)
		}
	}
}

func TestTextsBytes(t *testing.T) {
	for _, c := range []struct {
		list []string
		want []byte
	}{
		{nil, []byte{0}},
		{[]string{}, []byte{0}},
		{[]string{""}, []byte{2, 0}},
		{[]string{"", "c"}, []byte{4, 0, 2, 'c'}},
		{[]string{"ab", "", "c"}, []byte{6, 4, 'a', 'b', 0, 2, 'c'}},
		{make([]string, 64), append([]byte{128, 1}, make([]byte, 64)...)},
	} {
		if got := bits.Texts(c.list); !bytes.Equal(got, c.want) {
			t.Errorf("Texts(%q) is %v, not %v", c.list, got, c.want)
		}
	}
}

// P1.2

func TestReadInt(t *testing.T) {
	for _, n := range edges() {
		b := append(asTold(n), 128, 128)
		r := bits.NewReader(b)
		if got := r.Int(); got != n {
			t.Errorf("Int of %v is %d, not %d", b, got, n)
		}
		checkLeft(t, "behind a number", r, 2)
	}
}

func TestReadOneBehindAnother(t *testing.T) {
	var b []byte
	for _, n := range edges() {
		b = append(b, asTold(n)...)
	}
	r := bits.NewReader(b)
	left := len(b)
	for _, n := range edges() {
		if got := r.Int(); got != n {
			t.Fatalf("Int is %d, not %d", got, n)
		}
		left -= len(asTold(n))
		checkLeft(t, "amid numbers", r, left)
	}
}

func TestReadIntTooShort(t *testing.T) {
	for _, n := range edges() {
		b := asTold(n)
		for size := range b {
			r := bits.NewReader(b[:size])
			if got := r.Int(); got != 0 {
				t.Errorf("Int of %v is %d", b[:size], got)
			}
			checkSpent(t, "a number that ends too early", r)
		}
	}
}

func TestReadIntWrong(t *testing.T) {
	ones := bytes.Repeat([]byte{255}, 9)
	noughts := bytes.Repeat([]byte{128}, 9)
	for what, b := range map[string][]byte{
		"nothing":                            nil,
		"a last digit of 0, 2 bytes":         {128, 0},
		"a last digit of 0 behind others":    {255, 0},
		"a last digit of 0, 3 bytes":         {129, 128, 0},
		"a last digit of 0, 9 bytes":         slices.Concat(noughts[:8], []byte{0}),
		"a last digit of 0, 10 bytes":        slices.Concat(noughts, []byte{0}),
		"2^64":                               slices.Concat(noughts, []byte{2}),
		"2^64 + 2^63":                        slices.Concat(noughts, []byte{3}),
		"2^65 - 1":                           slices.Concat(ones, []byte{3}),
		"the greatest of 10 bytes":           slices.Concat(ones, []byte{127}),
		"10 bytes without an end":            slices.Concat(noughts, []byte{129}),
		"11 bytes":                           slices.Concat(noughts, []byte{129, 1}),
		"11 bytes, the last one 0":           slices.Concat(noughts, []byte{128, 0}),
		"11 bytes without an end":            slices.Concat(noughts, []byte{128, 128}),
		"11 bytes, a digit that may be last": slices.Concat(noughts, []byte{128, 1}),
		"many bytes without an end":          bytes.Repeat([]byte{255}, 1000),
	} {
		r := bits.NewReader(b)
		if got := r.Int(); got != 0 {
			t.Errorf("%s: Int %d", what, got)
		}
		checkSpent(t, what, r)

		if len(b) > 0 {
			r = bits.NewReader(slices.Concat(b, []byte{0, 0}))
			r.Int()
			checkSpent(t, what+", with more behind it", r)
		}

		r = bits.NewReader(b)
		if got := r.Text(); got != "" {
			t.Errorf("%s: Text %q", what, got)
		}
		checkSpent(t, what+", as a text's length", r)

		r = bits.NewReader(b)
		if got := r.Count(math.MaxInt); got != 0 {
			t.Errorf("%s: Count %d", what, got)
		}
		checkSpent(t, what+", as a count", r)

		r = bits.NewReader(b)
		if got := r.Texts(); len(got) != 0 {
			t.Errorf("%s: Texts %q", what, got)
		}
		checkSpent(t, what+", as a list's count", r)
	}
}

// TestReadIntAllShort: of all texts of up to 2 bytes just those begin with a number whose beginning is some number's bytes.
func TestReadIntAllShort(t *testing.T) {
	numbers := make(map[string]int)
	for n := -8192; n <= 8191; n++ {
		numbers[string(asTold(n))] = n
	}
	for first := range 256 {
		for second := range 256 {
			b := []byte{byte(first), byte(second)}
			n, ok := numbers[string(b[:1])]
			left := 1
			if !ok {
				n, ok = numbers[string(b)]
				left = 0
			}
			r := bits.NewReader(b)
			if got := r.Int(); got != n || r.Bad() == ok || (ok && r.Left() != left) {
				t.Errorf("Int of %v is %d (Bad %v, Left %d), not %d", b, got, r.Bad(), r.Left(), n)
			}
		}
	}
}

func TestReadText(t *testing.T) {
	for _, s := range []string{"", "a", "a b", "\x00\xff", strings.Repeat("y", 63), strings.Repeat("z", 64), strings.Repeat("\x80", 10000)} {
		r := bits.NewReader(append(bits.Text(s), 7))
		if got := r.Text(); got != s {
			t.Errorf("Text is %q, not %q", got, s)
		}
		checkLeft(t, "behind a text", r, 1)
	}
}

func TestReadTextWrong(t *testing.T) {
	for what, b := range map[string][]byte{
		"nothing":                       nil,
		"a length without its bytes":    {2},
		"1 byte too few":                {6, 'a', 'b'},
		"a length below 0":              {1, 'a'},
		"the least length":              append(asTold(math.MinInt), 'a'),
		"the greatest length":           append(asTold(math.MaxInt), 'a'),
		"a length that counts its byte": {4, 'a'},
		"many bytes too few":            append(asTold(10000), bytes.Repeat([]byte{'a'}, 9999)...),
	} {
		r := bits.NewReader(b)
		if got := r.Text(); got != "" {
			t.Errorf("%s: Text %q", what, got)
		}
		checkSpent(t, what, r)
	}
}

func TestCount(t *testing.T) {
	for _, c := range []struct{ n, most int }{
		{0, 0}, {0, 1}, {1, 1}, {3, 3}, {3, 4}, {64, 100}, {0, math.MaxInt}, {math.MaxInt, math.MaxInt},
	} {
		r := bits.NewReader(append(asTold(c.n), 9))
		if got := r.Count(c.most); got != c.n {
			t.Errorf("Count(%d) of %d is %d", c.most, c.n, got)
		}
		checkLeft(t, "behind a count", r, 1)
	}
}

func TestCountWrong(t *testing.T) {
	for _, c := range []struct{ n, most int }{
		{1, 0}, {4, 3}, {math.MaxInt, math.MaxInt - 1}, {-1, 0}, {-1, 5}, {-1, -1}, {-5, -1}, {-1, math.MaxInt},
		{0, -1}, {0, math.MinInt}, {math.MinInt, math.MaxInt}, {math.MinInt, math.MinInt}, {1, -1},
	} {
		r := bits.NewReader(append(asTold(c.n), 9))
		if got := r.Count(c.most); got != 0 {
			t.Errorf("Count(%d) of %d is %d", c.most, c.n, got)
		}
		checkSpent(t, "a wrong count", r)
	}
}

func TestReadTexts(t *testing.T) {
	for _, list := range [][]string{nil, {""}, {"", "c"}, {"ab", "", "\x00\xff"}, make([]string, 100), {strings.Repeat("x", 9000), "y"}} {
		r := bits.NewReader(append(bits.Texts(list), 9))
		if got := r.Texts(); !slices.Equal(got, list) {
			t.Errorf("Texts is %q, not %q", got, list)
		}
		checkLeft(t, "behind a list", r, 1)
	}
}

func TestReadTextsWrong(t *testing.T) {
	for what, b := range map[string][]byte{
		"nothing":                      nil,
		"a count without texts":        {2},
		"a count above what is left":   {8, 0, 2},
		"one text too few":             {4, 0},
		"a count below 0":              {1, 0, 0},
		"the least count":              append(asTold(math.MinInt), 0, 0),
		"the greatest count":           append(asTold(math.MaxInt), 0, 0),
		"a great count":                append(asTold(1<<40), 0, 0),
		"a last text that is too long": {4, 2, 'a', 4, 'b'},
		"a first text below 0":         {4, 1, 0},
		"a last text without a length": {4, 2, 'a', 128},
	} {
		r := bits.NewReader(b)
		if got := r.Texts(); len(got) != 0 {
			t.Errorf("%s: Texts %q", what, got)
		}
		checkSpent(t, what, r)
	}
}

// P1.3

func TestLeft(t *testing.T) {
	checkLeft(t, "nothing", bits.NewReader(nil), 0)
	checkLeft(t, "no bytes", bits.NewReader([]byte{}), 0)

	b := slices.Concat(bits.Int(-65), bits.Text("ab"), bits.Int(3), bits.Texts([]string{"", "c"}), []byte{128})
	r := bits.NewReader(b)
	checkLeft(t, "at the beginning", r, 11)
	r.Int()
	checkLeft(t, "behind Int", r, 9)
	r.Text()
	checkLeft(t, "behind Text", r, 6)
	r.Count(3)
	checkLeft(t, "behind Count", r, 5)
	r.Texts()
	checkLeft(t, "behind Texts", r, 1)
	r.Int()
	checkSpent(t, "behind half a number", r)

	r = bits.NewReader([]byte{0})
	r.Int()
	checkLeft(t, "at the end", r, 0)
	r.Int()
	checkSpent(t, "behind the end", r)
}

// P1.4

func TestHandedInStays(t *testing.T) {
	memory := []byte{4, 'a', 'b', 2, 'c', 7, 7, 7}
	was := slices.Clone(memory)
	r := bits.NewReader(memory[:5])
	if r.Left() != 5 || r.Text() != "ab" || r.Text() != "c" || !r.Done() {
		t.Error("the reader doesn't read what it was handed")
	}
	if !bytes.Equal(memory, was) {
		t.Error("the reader changed what it was handed:", memory)
	}

	list := []string{"a", "b", "c", "d"}
	bits.Texts(list[:2])
	if !slices.Equal(list, []string{"a", "b", "c", "d"}) {
		t.Error("Texts changed what it was handed:", list)
	}
}

func TestHandedInIsNotKept(t *testing.T) {
	b := slices.Concat(bits.Text("ab"), bits.Texts([]string{"c", "d"}), bits.Int(5))
	r := bits.NewReader(b)
	clear(b)
	if s := r.Text(); s != "ab" {
		t.Errorf("Text %q", s)
	}
	if list := r.Texts(); !slices.Equal(list, []string{"c", "d"}) {
		t.Errorf("Texts %q", list)
	}
	if n := r.Int(); n != 5 || !r.Done() {
		t.Errorf("Int %d", n)
	}

	list := []string{"a", "b"}
	texts := bits.Texts(list)
	clear(list)
	if !bytes.Equal(texts, []byte{4, 2, 'a', 2, 'b'}) {
		t.Error("Texts kept its list:", texts)
	}
}

// spoilMemory: fills bytes, and the spare room behind them.
func spoilMemory(b []byte) {
	b = b[:cap(b)]
	for i := range b {
		b[i] = 99
	}
}

func TestAnswersAreNew(t *testing.T) {
	for _, answer := range []func() []byte{
		func() []byte { return bits.Int(0) },
		func() []byte { return bits.Int(1000) },
		func() []byte { return bits.Text("") },
		func() []byte { return bits.Text("abc") },
		func() []byte { return bits.Texts(nil) },
		func() []byte { return bits.Texts([]string{"a", ""}) },
	} {
		first := answer()
		was := slices.Clone(first)
		spoilMemory(answer())
		if !bytes.Equal(first, was) || !bytes.Equal(answer(), was) {
			t.Error("two answers share memory:", first, was)
		}
	}

	b := slices.Concat(bits.Texts([]string{"a", "b"}), bits.Texts([]string{"c", "d"}))
	r := bits.NewReader(b)
	first := r.Texts()
	clear(first[:cap(first)])
	second := r.Texts()
	if !slices.Equal(second, []string{"c", "d"}) {
		t.Errorf("Texts %q", second)
	}
	clear(second[:cap(second)])
	if again := bits.NewReader(b).Texts(); !slices.Equal(again, []string{"a", "b"}) {
		t.Errorf("Texts %q", again)
	}
}

func TestReadersAreApart(t *testing.T) {
	b := bits.Texts([]string{"a", "b"})
	one, other := bits.NewReader(b), bits.NewReader(b)
	one.Texts()
	one.Int()
	checkSpent(t, "one reader", one)
	checkLeft(t, "the other reader", other, len(b))
}

// P1: all calls end, and none panics, at any bytes; what is read is what such bytes are.

func FuzzReader(f *testing.F) {
	f.Add([]byte{}, []byte{}, 0)
	f.Add([]byte{4, 0, 2, 'c'}, []byte{3}, 2)
	f.Add([]byte{4, 'a', 'b', 8, 0, 2}, []byte{1, 2, 3, 0}, -1)
	f.Add(bytes.Repeat([]byte{255}, 30), []byte{0, 1, 2, 3}, math.MaxInt)
	f.Add(slices.Concat(asTold(math.MinInt), asTold(math.MaxInt)), []byte{0, 1}, math.MinInt)
	f.Fuzz(func(t *testing.T, b, calls []byte, most int) {
		r := bits.NewReader(b)
		for _, call := range calls {
			rest := b[len(b)-r.Left():]
			var read []byte
			switch call % 4 {
			case 0:
				read = bits.Int(r.Int())
			case 1:
				read = bits.Text(r.Text())
			case 2:
				n := r.Count(most)
				if n != 0 && (n < 0 || n > most) {
					t.Fatalf("Count(%d) is %d", most, n)
				}
				read = bits.Int(n)
			case 3:
				read = bits.Texts(r.Texts())
			}
			if r.Bad() {
				checkSpent(t, "bad", r)
				return
			}
			if !bytes.Equal(read, rest[:len(rest)-r.Left()]) {
				t.Fatalf("%v was read of %v, with %d left", read, rest, r.Left())
			}
		}
	})
}

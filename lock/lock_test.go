package lock_test

import (
	"bytes"
	"fmt"
	"math"
	"runtime"
	"slices"
	"strconv"
	"strings"
	"testing"
	"unsafe"

	"interlock/api"
	"interlock/lock"
	"interlock/modes"
)

// told is a lock that a transaction has, or waits for.
type told struct {
	txn   int
	thing api.Thing
	mode  int
}

// telling is who has and waits for what, by the chapter's words: of all things one list each.
type telling struct{ held, row []told }

func (l *telling) copy() telling { return telling{slices.Clone(l.held), slices.Clone(l.row)} }

// on: those of a list that are of a thing.
func on(list []told, x api.Thing) []told {
	var some []told
	for _, o := range list {
		if o.thing == x {
			some = append(some, o)
		}
	}
	return some
}

func (l *telling) mode(txn int, x api.Thing) int {
	for _, o := range on(l.held, x) {
		if o.txn == txn {
			return o.mode
		}
	}
	return 0
}

// waits: where in the row a transaction stands; below 0, if it doesn't wait.
func (l *telling) waits(txn int) int {
	return slices.IndexFunc(l.row, func(o told) bool { return o.txn == txn })
}

// bars: who has, or is to have ahead of it, what conflicts with one.
func (l *telling) bars(o told, ahead []told) []int {
	var list []int
	for _, h := range append(on(l.held, o.thing), on(ahead, o.thing)...) {
		if h.txn != o.txn && modes.Conflict(o.mode, h.mode) {
			list = append(list, h.txn)
		}
	}
	return list
}

func (l *telling) have(o told) {
	for i, h := range l.held {
		if h.txn == o.txn && h.thing == o.thing {
			l.held[i] = o
			return
		}
	}
	l.held = append(l.held, o)
}

func (l *telling) ask(txn int, w api.Want) (bool, api.Errno) {
	if !modes.Fits(w.Thing) || !modes.Right(w.Mode) {
		return false, api.ErrForm
	}
	if l.waits(txn) >= 0 {
		return false, api.ErrState
	}
	o, at := told{txn, w.Thing, w.Mode}, len(l.row)
	if had := l.mode(txn, w.Thing); had != 0 {
		if modes.Covers(had, w.Mode) {
			return true, api.OK
		}
		o.mode = modes.Join(had, w.Mode)
		for i := len(l.row) - 1; i >= 0; i-- {
			if l.row[i].thing == w.Thing && l.mode(l.row[i].txn, w.Thing) == 0 {
				at = i
			}
		}
	}
	if len(l.bars(o, l.row[:at])) == 0 {
		l.have(o)
		return true, api.OK
	}
	l.row = slices.Insert(l.row, at, o)
	return false, api.OK
}

func (l *telling) sweep(x api.Thing) []int {
	var list []int
	for i := 0; i < len(l.row); i++ {
		if o := l.row[i]; o.thing == x && len(l.bars(o, l.row[:i])) == 0 {
			l.row = slices.Delete(l.row, i, i+1)
			l.have(o)
			list = append(list, o.txn)
			i--
		}
	}
	return list
}

func (l *telling) cancel(txn int) []int {
	at := l.waits(txn)
	if at < 0 {
		return nil
	}
	x := l.row[at].thing
	l.row = slices.Delete(l.row, at, at+1)
	return l.sweep(x)
}

// cut: a list without a transaction; and its things are put to others.
func cut(list []told, txn int, things *[]api.Thing) []told {
	var rest []told
	for _, o := range list {
		if o.txn != txn {
			rest = append(rest, o)
		} else if !slices.Contains(*things, o.thing) {
			*things = append(*things, o.thing)
		}
	}
	return rest
}

// inOrder: things by their Kind, Table, Key.
func inOrder(list []api.Thing) []api.Thing {
	slices.SortFunc(list, func(a, b api.Thing) int {
		switch {
		case a.Kind != b.Kind && a.Kind < b.Kind:
			return -1
		case a.Kind != b.Kind:
			return 1
		case a.Table != b.Table:
			return bytes.Compare([]byte(a.Table), []byte(b.Table))
		}
		return bytes.Compare([]byte(a.Key), []byte(b.Key))
	})
	return list
}

func (l *telling) release(txn int) []int {
	var things []api.Thing
	l.held = cut(l.held, txn, &things)
	l.row = cut(l.row, txn, &things)
	var list []int
	for _, x := range inOrder(things) {
		list = append(list, l.sweep(x)...)
	}
	return list
}

func (l *telling) blockers(txn int) []int {
	at := l.waits(txn)
	if at < 0 {
		return nil
	}
	list := l.bars(l.row[at], l.row[:at])
	slices.Sort(list)
	return slices.Compact(list)
}

func (l *telling) things(txn int) []api.Thing {
	var list []api.Thing
	cut(l.held, txn, &list)
	return inOrder(list)
}

func (l *telling) state(x api.Thing) []api.Held {
	var list []api.Held
	for _, o := range on(l.held, x) {
		list = append(list, api.Held{Txn: o.txn, Mode: o.mode})
	}
	for _, o := range on(l.row, x) {
		list = append(list, api.Held{Txn: o.txn, Mode: o.mode, Wait: true})
	}
	return list
}

// pair is locks, and what is told of them.
type pair struct {
	t *testing.T
	x *lock.Locks
	l telling
}

func fresh(t *testing.T) *pair { return &pair{t: t, x: lock.New()} }

func (p *pair) ask(txn, mode int, x api.Thing) {
	p.t.Helper()
	was := p.l.copy()
	want, e := p.l.ask(txn, api.Want{Thing: x, Mode: mode})
	if got, f := p.x.Ask(txn, api.Want{Thing: x, Mode: mode}); got != want || f != e {
		p.t.Fatalf("Ask(%d, %d, %v) is %v, %d, not %v, %d, with %v", txn, mode, x, got, f, want, e, was)
	}
}

// same: who has something now is as told.
func (p *pair) same(name string, txn int, got, want []int, was telling) {
	p.t.Helper()
	if !slices.Equal(got, want) {
		p.t.Fatalf("%s(%d) is %v, not %v, with %v", name, txn, got, want, was)
	}
}

func (p *pair) cancel(txn int) {
	p.t.Helper()
	was := p.l.copy()
	p.same("Cancel", txn, p.x.Cancel(txn), p.l.cancel(txn), was)
}

func (p *pair) release(txn int) {
	p.t.Helper()
	was := p.l.copy()
	p.same("Release", txn, p.x.Release(txn), p.l.release(txn), was)
}

// checkTxn: what a transaction has and waits for is as told.
func (p *pair) checkTxn(txn int) {
	p.t.Helper()
	want, at := api.Want{}, p.l.waits(txn)
	if at >= 0 {
		want = api.Want{Thing: p.l.row[at].thing, Mode: p.l.row[at].mode}
	}
	if got, ok := p.x.Waiting(txn); got != want || ok != (at >= 0) {
		p.t.Fatalf("Waiting(%d) is %v, %v, not %v, with %v", txn, got, ok, want, p.l)
	}
	if got, want := p.x.Blockers(txn), p.l.blockers(txn); !slices.Equal(got, want) {
		p.t.Fatalf("Blockers(%d) is %v, not %v, with %v", txn, got, want, p.l)
	}
	if got, want := p.x.Things(txn), p.l.things(txn); !slices.Equal(got, want) {
		p.t.Fatalf("Things(%d) is %v, not %v, with %v", txn, got, want, p.l)
	}
}

// checkBeing: P11.4's first two words, by what the locks tell alone.
func (p *pair) checkBeing(x api.Thing) {
	p.t.Helper()
	list := p.x.State(x)
	for i, a := range list {
		if a.Wait && len(p.x.Blockers(a.Txn)) == 0 {
			p.t.Fatalf("%d waits for nobody: %v", a.Txn, list)
		}
		for _, b := range list[:i] {
			if !a.Wait && modes.Conflict(a.Mode, b.Mode) {
				p.t.Fatalf("%v and %v hold %v", a, b, x)
			}
		}
	}
}

// check: all is as told; so are other transactions and things, of which there is nothing.
func (p *pair) check(txns []int, things []api.Thing) {
	p.t.Helper()
	for _, o := range append(p.l.held[:len(p.l.held):len(p.l.held)], p.l.row...) {
		if !slices.Contains(txns, o.txn) {
			txns = append(txns[:len(txns):len(txns)], o.txn)
		}
		if !slices.Contains(things, o.thing) {
			things = append(things[:len(things):len(things)], o.thing)
		}
	}
	for _, txn := range txns {
		p.checkTxn(txn)
		for _, x := range things {
			if got, want := p.x.Mode(txn, x), p.l.mode(txn, x); got != want {
				p.t.Fatalf("Mode(%d, %v) is %d, not %d, with %v", txn, x, got, want, p.l)
			}
		}
	}
	for _, x := range things {
		if got, want := p.x.State(x), p.l.state(x); !slices.Equal(got, want) {
			p.t.Fatalf("State(%v) is %v, not %v, with %v", x, got, want, p.l)
		}
		p.checkBeing(x)
	}
}

// drain: all let go of what they have, one after the other; then there is nothing.
func (p *pair) drain(txns []int, things []api.Thing) {
	p.t.Helper()
	for len(p.l.held) > 0 {
		p.release(p.l.held[len(p.l.held)/2].txn)
		p.check(txns, things)
	}
	if len(p.l.row) > 0 {
		p.t.Fatalf("some wait for what nobody has: %v", p.l)
	}
}

// dice answers the numbers of a rule, each below the one that it is handed.
func dice(seed uint32) func(n int) int {
	return func(n int) int {
		seed = seed*1664525 + 1013904223
		return int(seed>>16) % n
	}
}

func row(key string) api.Thing { return api.Thing{Kind: api.KRow, Table: "t", Key: key} }

func table(name string) api.Thing { return api.Thing{Kind: api.KTable, Table: name} }

// numbers: transactions of all kinds, rising.
func numbers() []int {
	return []int{math.MinInt, math.MinInt + 1, -1 << 32, math.MinInt32, -2, -1, 0, 1, 2, 255, math.MaxInt32, 1 << 32, 1<<32 + 1, math.MaxInt - 1, math.MaxInt}
}

// rightThings: things of all Kinds, in order.
func rightThings() []api.Thing {
	return []api.Thing{
		{Kind: api.KDatabase}, {Kind: api.KGrants},
		table(""), table("\x00"), table("T"), table("a"), table("a\x00"), table("aa"), table("b"), table("\x7f"), table("\x80"), table("\xff"),
		{Kind: api.KRow}, {Kind: api.KRow, Key: "\x00"}, {Kind: api.KRow, Key: "z"},
		{Kind: api.KRow, Table: "a", Key: "z"}, {Kind: api.KRow, Table: "ab"}, {Kind: api.KRow, Table: "b", Key: "a"},
		row(""), row("\x00"), row("\x00\x00"), row("\x00\x01"), row("\x01\x80\x00\x00\x00\x00\x00\x00\x05"), row("\x01\xff"), row("K"), row("k"), row("k\x00"), row("kk"), row("l"), row("\x80"), row("\xff"), row("\xff\x00"),
		{Kind: api.KRow, Table: "\xff"}, {Kind: api.KRow, Table: "\xff", Key: "\xff"},
	}
}

// wrongThings: no things.
func wrongThings() []api.Thing {
	list := []api.Thing{
		{}, {Table: "t"}, {Table: "t", Key: "k"},
		{Kind: api.KDatabase, Table: "t"}, {Kind: api.KDatabase, Key: "k"}, {Kind: api.KDatabase, Table: "\x00"},
		{Kind: api.KGrants, Table: "t"}, {Kind: api.KGrants, Key: "k"}, {Kind: api.KGrants, Table: "t", Key: "k"},
		{Kind: api.KTable, Key: "k"}, {Kind: api.KTable, Table: "t", Key: "k"}, {Kind: api.KTable, Table: "t", Key: "\x00"},
	}
	for _, kind := range []int{-4, -1, 5, 6, 8, 67, 1<<32 + api.KRow, math.MinInt + api.KRow, math.MinInt, math.MaxInt} {
		list = append(list, api.Thing{Kind: kind}, api.Thing{Kind: kind, Table: "t"}, api.Thing{Kind: kind, Table: "t", Key: "k"})
	}
	return list
}

// wrongModes: no modes.
func wrongModes() []int {
	return []int{math.MinInt, math.MinInt + 3, -8, -3, -1, 0, 9, 10, 16, 67, 259, 1<<32 + 3, math.MaxInt}
}

// beside: has one a mode (the place, from 1 on), while another one has the mode? "+" or "-" for each.
func beside(mode int) string {
	return []string{
		"",
		"+++++-+-",
		"++-+--+-",
		"+-++--+-",
		"+++-+-+-",
		"+--+--+-",
		"------+-",
		"+++++++-",
		"--------",
	}[mode]
}

// joined: what one that has the mode has, when it has asked for each one from 1 on.
func joined(mode int) string {
	return []string{
		"",
		"12345618",
		"22565628",
		"35365638",
		"46646648",
		"55565658",
		"66666668",
		"12345678",
		"88888888",
	}[mode]
}

// show: a thing's state as text, "1:3 | 2:6": the holders, then the waiters, with their modes.
func show(list []api.Held) string {
	words := []string{"|"}
	for _, h := range list {
		word := fmt.Sprintf("%d:%d", h.Txn, h.Mode)
		if h.Wait {
			words = append(words, word)
		} else {
			words = slices.Insert(words, slices.Index(words, "|"), word)
		}
	}
	return strings.Join(words, " ")
}

// done: what a call comes to, both as text. Things are rows of the table t, told by their keys.
func done(x *lock.Locks, call string) string {
	words := append(strings.Fields(call), "", "", "")
	n, _ := strconv.Atoi(words[1])
	mode, _ := strconv.Atoi(words[2])
	switch words[0] {
	case "ask":
		ok, e := x.Ask(n, api.Want{Thing: row(words[3]), Mode: mode})
		if e != api.OK {
			return fmt.Sprint(ok, int(e))
		}
		return fmt.Sprint(ok)
	case "cancel":
		return fmt.Sprint(x.Cancel(n))
	case "release":
		return fmt.Sprint(x.Release(n))
	case "blockers":
		return fmt.Sprint(x.Blockers(n))
	case "waiting":
		w, ok := x.Waiting(n)
		return fmt.Sprintf("%s %d %v", w.Thing.Key, w.Mode, ok)
	case "mode":
		return fmt.Sprint(x.Mode(n, row(words[2])))
	case "state":
		return show(x.State(row(words[1])))
	case "things":
		text := ""
		for _, o := range x.Things(n) {
			text += o.Key
		}
		return text
	}
	return "no such call"
}

// run: calls, each with what it comes to, one after the other.
func run(t *testing.T, calls [][2]string) {
	t.Helper()
	x := lock.New()
	for _, c := range calls {
		if got := done(x, c[0]); got != c[1] {
			t.Fatalf("%s: %s, not %s", c[0], got, c[1])
		}
	}
}

// P11.1

func TestNew(t *testing.T) {
	p := fresh(t)
	p.check(numbers(), append(rightThings(), wrongThings()...))
	for _, n := range numbers() {
		p.cancel(n)
		p.release(n)
	}
	p.check(numbers(), append(rightThings(), wrongThings()...))
}

// Any transaction has any mode of any thing that nobody has.
func TestAskOfFreeThings(t *testing.T) {
	for _, txn := range numbers() {
		p := fresh(t)
		for i, x := range rightThings() {
			mode := i%8 + 1
			if ok, e := p.x.Ask(txn, api.Want{Thing: x, Mode: mode}); !ok || e != api.OK {
				t.Errorf("Ask(%d, %d, %v) is %v, %d", txn, mode, x, ok, e)
			}
			p.l.held = append(p.l.held, told{txn, x, mode})
		}
		p.check(numbers(), wrongThings())
	}
}

func TestAskBesideAnother(t *testing.T) {
	for a := 1; a <= 8; a++ {
		for b := 1; b <= 8; b++ {
			for _, x := range []api.Thing{{Kind: api.KDatabase}, {Kind: api.KGrants}, table("t"), row("k")} {
				l := lock.New()
				l.Ask(1, api.Want{Thing: x, Mode: a})
				want := beside(a)[b-1] == '+'
				if got, e := l.Ask(2, api.Want{Thing: x, Mode: b}); got != want || e != api.OK {
					t.Errorf("%d beside %d: %v, %d", b, a, got, e)
				}
				if s := l.State(x); len(s) != 2 || s[0] != (api.Held{Txn: 1, Mode: a}) || s[1] != (api.Held{Txn: 2, Mode: b, Wait: !want}) {
					t.Errorf("%d beside %d: %v", b, a, s)
				}
			}
		}
	}
}

// One that waits stands in the way of those behind it, as if it had the lock.
func TestAskBehindAWaiter(t *testing.T) {
	for a := 1; a <= 8; a++ {
		for b := 1; b <= 8; b++ {
			for c := 1; c <= 8; c++ {
				l := lock.New()
				l.Ask(1, api.Want{Thing: row("k"), Mode: a})
				l.Ask(2, api.Want{Thing: row("k"), Mode: b})
				want := beside(a)[c-1] == '+' && beside(b)[c-1] == '+'
				if got, e := l.Ask(3, api.Want{Thing: row("k"), Mode: c}); got != want || e != api.OK {
					t.Errorf("%d behind %d and %d: %v, %d", c, a, b, got, e)
				}
			}
		}
	}
}

// A holder that nobody stands beside has the join of what it has and what it asks for.
func TestRaiseAlone(t *testing.T) {
	for a := 1; a <= 8; a++ {
		for b := 1; b <= 8; b++ {
			l := lock.New()
			l.Ask(1, api.Want{Thing: row("k"), Mode: a})
			if ok, e := l.Ask(1, api.Want{Thing: row("k"), Mode: b}); !ok || e != api.OK {
				t.Errorf("%d behind %d: %v, %d", b, a, ok, e)
			}
			want := int(joined(a)[b-1] - '0')
			if s := l.State(row("k")); len(s) != 1 || s[0] != (api.Held{Txn: 1, Mode: want}) || l.Mode(1, row("k")) != want {
				t.Errorf("%d behind %d: %v", b, a, s)
			}
			if list := l.Things(1); len(list) != 1 {
				t.Errorf("%d behind %d: %v", b, a, list)
			}
		}
	}
}

// Of a holder the join counts beside the others, not what it asks for.
func TestRaiseBesideAnother(t *testing.T) {
	for a := 1; a <= 8; a++ {
		for b := 1; b <= 8; b++ {
			for c := 1; c <= 8; c++ {
				if beside(a)[c-1] == '-' {
					continue
				}
				p := fresh(t)
				p.ask(1, a, row("k"))
				p.ask(2, c, row("k"))
				to := int(joined(a)[b-1] - '0')
				want := to == a || beside(to)[c-1] == '+'
				if got, e := p.x.Ask(1, api.Want{Thing: row("k"), Mode: b}); got != want || e != api.OK {
					t.Errorf("%d and %d beside %d: %v, %d", a, b, c, got, e)
				}
				s := fmt.Sprintf("1:%d 2:%d |", to, c)
				if !want {
					s = fmt.Sprintf("1:%d 2:%d | 1:%d", a, c, to)
				}
				if got := show(p.x.State(row("k"))); got != s {
					t.Errorf("%d and %d beside %d: %s, not %s", a, b, c, got, s)
				}
			}
		}
	}
}

func TestAskExamples(t *testing.T) {
	for name, calls := range map[string][][2]string{
		"the chapter's": {
			{"ask 1 3 k", "true"}, {"ask 2 6 k", "false"}, {"ask 3 3 k", "false"},
			{"state k", "1:3 | 2:6 3:3"}, {"release 1", "[2]"}, {"state k", "2:6 | 3:3"},
		},
		"a holder has what it has, whoever waits": {
			{"ask 1 3 k", "true"}, {"ask 2 8 k", "false"}, {"ask 1 3 k", "true"}, {"ask 1 1 k", "true"}, {"ask 1 7 k", "true"},
			{"state k", "1:3 | 2:8"},
		},
		"a holder goes past those that aren't": {
			{"ask 1 3 k", "true"}, {"ask 2 8 k", "false"}, {"ask 3 7 k", "false"}, {"ask 1 6 k", "true"}, {"ask 1 8 k", "true"},
			{"state k", "1:8 | 2:8 3:7"},
		},
		"holders that wait stand ahead, in the order in which they came": {
			{"ask 1 1 k", "true"}, {"ask 2 1 k", "true"}, {"ask 3 1 k", "true"}, {"ask 4 6 k", "false"}, {"ask 5 1 k", "false"},
			{"ask 2 6 k", "false"}, {"state k", "1:1 2:1 3:1 | 2:6 4:6 5:1"},
			{"ask 3 6 k", "false"}, {"state k", "1:1 2:1 3:1 | 2:6 3:6 4:6 5:1"},
			{"ask 1 8 k", "false"}, {"state k", "1:1 2:1 3:1 | 2:6 3:6 1:8 4:6 5:1"},
		},
		"a holder doesn't go past holders that wait": {
			{"ask 1 1 k", "true"}, {"ask 2 3 k", "true"}, {"ask 1 2 k", "false"}, {"ask 2 6 k", "false"},
			{"state k", "1:1 2:3 | 1:2 2:6"}, {"blockers 1", "[2]"}, {"blockers 2", "[1]"},
		},
		"a holder that waits stands in a holder's way": {
			{"ask 1 7 k", "true"}, {"ask 2 3 k", "true"}, {"ask 3 1 k", "true"}, {"ask 1 2 k", "false"}, {"ask 3 4 k", "true"},
			{"ask 3 3 k", "false"}, {"state k", "1:7 2:3 3:4 | 1:2 3:6"}, {"blockers 3", "[1 2]"},
		},
		"a holder has what those ahead of it don't bar, though some wait": {
			{"ask 1 1 k", "true"}, {"ask 2 3 k", "true"}, {"ask 3 7 k", "true"}, {"ask 4 8 k", "false"}, {"ask 1 2 k", "false"}, {"ask 3 4 k", "true"},
			{"state k", "1:1 2:3 3:4 | 1:2 4:8"},
		},
		"another one has it, though some wait that don't bar it": {
			{"ask 1 4 k", "true"}, {"ask 2 4 k", "false"}, {"ask 3 4 k", "false"}, {"ask 4 3 k", "true"}, {"ask 5 2 k", "false"}, {"ask 6 1 k", "true"},
			{"state k", "1:4 4:3 6:1 | 2:4 3:4 5:2"},
		},
		"where it stood": {
			{"ask 1 1 k", "true"}, {"ask 2 1 k", "true"}, {"ask 3 1 k", "true"}, {"ask 1 4 k", "true"}, {"ask 2 2 k", "true"},
			{"state k", "1:4 2:2 3:1 |"},
		},
		"one that waits": {
			{"ask 1 6 k", "true"}, {"ask 2 1 j", "true"}, {"ask 2 3 k", "false"},
			{"ask 2 3 k", "false 21"}, {"ask 2 7 k", "false 21"}, {"ask 2 1 j", "false 21"}, {"ask 2 3 i", "false 21"},
			{"ask 2 0 k", "false 10"}, {"ask 2 9 j", "false 10"}, {"ask 2 -1 i", "false 10"},
			{"state k", "1:6 | 2:3"}, {"state j", "2:1 |"}, {"state i", "|"},
		},
		"a holder that waits has nothing of it": {
			{"ask 1 3 k", "true"}, {"ask 2 3 k", "true"}, {"ask 1 6 k", "false"}, {"mode 1 k", "3"}, {"ask 1 3 k", "false 21"}, {"ask 1 1 k", "false 21"},
		},
	} {
		t.Run(name, func(t *testing.T) { run(t, calls) })
	}
}

// What isn't right is refused, of one that waits, too, and changes nothing.
func TestAskOfWrongOnes(t *testing.T) {
	p := fresh(t)
	p.ask(1, api.MExclusive, row("k"))
	p.ask(2, api.MShare, row("k"))
	refused := func(txn, mode int, x api.Thing) {
		t.Helper()
		if ok, e := p.x.Ask(txn, api.Want{Thing: x, Mode: mode}); ok || e != api.ErrForm {
			t.Errorf("Ask(%d, %d, %v) is %v, %d", txn, mode, x, ok, e)
		}
	}
	for txn := 1; txn <= 3; txn++ {
		for _, x := range wrongThings() {
			refused(txn, api.MShare, x)
			refused(txn, 9, x)
		}
		for _, mode := range wrongModes() {
			refused(txn, mode, row("k"))
			refused(txn, mode, row("j"))
		}
	}
	p.check([]int{3}, append(wrongThings(), rightThings()...))
}

// Things that differ in anything are other things.
func TestThingsAreApart(t *testing.T) {
	l := lock.New()
	for txn, x := range rightThings() {
		if ok, e := l.Ask(txn, api.Want{Thing: x, Mode: api.MAlter}); !ok || e != api.OK {
			t.Errorf("Ask of %v is %v, %d", x, ok, e)
		}
	}
	for txn, x := range rightThings() {
		if s := l.State(x); !slices.Equal(s, []api.Held{{Txn: txn, Mode: api.MAlter}}) {
			t.Errorf("State of %v is %v", x, s)
		}
	}
}

// Locks that are made twice don't know of one another.
func TestLocksAreApart(t *testing.T) {
	a, b := fresh(t), fresh(t)
	for i := range 6 {
		a.ask(i, 3+i%2*3, row("k"))
		b.ask(i+3, 6-i%2*3, row("k"))
	}
	a.release(0)
	a.check([]int{0, 1, 2, 3, 4, 5, 6, 7, 8}, []api.Thing{row("k")})
	b.check([]int{0, 1, 2, 3, 4, 5, 6, 7, 8}, []api.Thing{row("k")})
	b.drain(nil, []api.Thing{row("k")})
	a.drain(nil, []api.Thing{row("k")})
}

// P11.2

func TestEndExamples(t *testing.T) {
	for name, calls := range map[string][][2]string{
		"one that doesn't wait": {
			{"ask 1 3 k", "true"}, {"ask 2 6 k", "false"}, {"cancel 1", "[]"}, {"cancel 3", "[]"}, {"release 3", "[]"},
			{"state k", "1:3 | 2:6"},
		},
		"who was behind one that waits no more": {
			{"ask 1 3 k", "true"}, {"ask 2 6 k", "false"}, {"ask 3 3 k", "false"}, {"ask 4 1 k", "false"}, {"ask 5 2 k", "false"}, {"ask 6 3 k", "false"},
			{"cancel 2", "[3 4]"}, {"state k", "1:3 3:3 4:1 | 5:2 6:3"}, {"waiting 2", " 0 false"},
			{"ask 2 3 j", "true"}, {"cancel 2", "[]"}, {"cancel 5", "[6]"}, {"state k", "1:3 3:3 4:1 6:3 |"},
		},
		"a holder that waits no more goes on holding": {
			{"ask 1 3 k", "true"}, {"ask 2 3 k", "true"}, {"ask 1 6 k", "false"}, {"ask 3 3 k", "false"},
			{"cancel 1", "[3]"}, {"mode 1 k", "3"}, {"state k", "1:3 2:3 3:3 |"}, {"ask 1 6 k", "false"},
		},
		"those that can have it pass those that can't": {
			{"ask 1 6 k", "true"}, {"ask 2 3 k", "false"}, {"ask 3 2 k", "false"}, {"ask 4 3 k", "false"}, {"ask 5 4 k", "false"}, {"ask 6 4 k", "false"}, {"ask 7 1 k", "false"},
			{"release 1", "[2 5 7]"}, {"state k", "2:3 5:4 7:1 | 3:2 4:3 6:4"},
			{"release 2", "[3]"}, {"state k", "5:4 7:1 3:2 | 4:3 6:4"},
		},
		"holders that wait have it where they stood": {
			{"ask 1 3 k", "true"}, {"ask 2 3 k", "true"}, {"ask 3 6 k", "false"}, {"ask 1 6 k", "false"},
			{"release 2", "[1]"}, {"state k", "1:6 | 3:6"}, {"things 1", "k"}, {"release 1", "[3]"}, {"things 1", ""},
		},
		"two that wait for one another": {
			{"ask 1 3 k", "true"}, {"ask 2 3 k", "true"}, {"ask 1 6 k", "false"}, {"ask 2 6 k", "false"},
			{"release 1", "[2]"}, {"state k", "2:6 |"},
		},
		"a waiter that is gone leaves those that bar the others": {
			{"ask 1 3 k", "true"}, {"ask 2 6 k", "false"}, {"ask 3 6 k", "false"}, {"ask 4 3 k", "false"},
			{"cancel 2", "[]"}, {"cancel 3", "[4]"}, {"state k", "1:3 4:3 |"},
		},
		"one that waits only": {
			{"ask 1 6 k", "true"}, {"ask 2 8 k", "false"}, {"ask 3 7 k", "false"},
			{"release 2", "[3]"}, {"state k", "1:6 3:7 |"}, {"release 2", "[]"},
		},
		"by their things, then as they came": {
			{"ask 1 6 c", "true"}, {"ask 1 6 a", "true"}, {"ask 9 6 b", "true"},
			{"ask 2 3 c", "false"}, {"ask 3 3 a", "false"}, {"ask 4 3 c", "false"}, {"ask 5 3 a", "false"},
			{"ask 1 3 b", "false"}, {"ask 6 7 b", "true"}, {"ask 7 8 b", "false"}, {"ask 8 7 b", "false"},
			{"release 1", "[3 5 2 4]"}, {"cancel 7", "[8]"},
		},
		"what it waited for is swept in its place": {
			{"ask 1 6 a", "true"}, {"ask 1 6 c", "true"}, {"ask 9 3 b", "true"}, {"ask 1 6 b", "false"},
			{"ask 2 3 c", "false"}, {"ask 3 3 b", "false"}, {"ask 4 3 a", "false"}, {"ask 5 3 b", "false"},
			{"release 1", "[4 3 5 2]"},
		},
		"what it had and waited for is swept when it has neither": {
			{"ask 1 3 k", "true"}, {"ask 2 7 k", "true"}, {"ask 3 3 k", "true"}, {"ask 1 6 k", "false"}, {"ask 4 2 k", "false"}, {"ask 5 4 k", "false"},
			{"release 3", "[1]"}, {"state k", "1:6 2:7 | 4:2 5:4"}, {"release 1", "[4 5]"}, {"state k", "2:7 4:2 5:4 |"},
		},
		"all at once, not what it waited for ahead of what it had": {
			{"ask 1 3 k", "true"}, {"ask 2 1 k", "true"}, {"ask 1 6 k", "false"}, {"ask 3 2 k", "false"}, {"ask 4 1 k", "false"},
			{"release 1", "[3 4]"}, {"state k", "2:1 3:2 4:1 |"},
		},
		"gone and there again": {
			{"ask 1 6 k", "true"}, {"release 1", "[]"}, {"state k", "|"}, {"things 1", ""}, {"ask 2 6 k", "true"}, {"ask 1 6 k", "false"},
			{"release 2", "[1]"}, {"things 1", "k"}, {"release 1", "[]"}, {"release 1", "[]"}, {"cancel 1", "[]"},
		},
	} {
		t.Run(name, func(t *testing.T) { run(t, calls) })
	}
}

// Many things are swept in order, whatever the order in which they came.
func TestReleaseIsInOrder(t *testing.T) {
	things := rightThings()
	for seed := range uint32(30) {
		p, next := fresh(t), dice(seed)
		order := rightThings()
		for i := range order {
			j := i + next(len(order)-i)
			order[i], order[j] = order[j], order[i]
			if i > 0 {
				p.ask(-1, api.MExclusive, order[i])
			}
		}
		p.ask(-2, api.MShare, order[0])
		p.ask(-1, api.MExclusive, order[0])
		for range 2 {
			for i := range order {
				if x := order[(i*5+int(seed))%len(order)]; p.l.waits(slices.Index(things, x)) < 0 {
					p.ask(slices.Index(things, x), api.MShare, x)
				} else {
					p.ask(slices.Index(things, x)+100, api.MShare, x)
				}
			}
		}
		var want []int
		for i := range things {
			want = append(want, i, i+100)
		}
		p.l.release(-1)
		if got := p.x.Release(-1); !slices.Equal(got, want) {
			t.Fatalf("Release is %v, not %v, with things that came as %v", got, want, order)
		}
		p.check(nil, things)
	}
}

// P11.3

func TestAskingExamples(t *testing.T) {
	for name, calls := range map[string][][2]string{
		"of one that doesn't wait": {
			{"ask 1 6 k", "true"}, {"blockers 1", "[]"}, {"waiting 1", " 0 false"}, {"mode 1 k", "6"}, {"mode 1 j", "0"}, {"mode 2 k", "0"}, {"things 1", "k"},
		},
		"of one that waits": {
			{"ask 1 6 k", "true"}, {"ask 2 3 k", "false"}, {"blockers 2", "[1]"}, {"waiting 2", "k 3 true"}, {"mode 2 k", "0"}, {"things 2", ""},
		},
		"those alone whose modes conflict": {
			{"ask 4 1 k", "true"}, {"ask 9 3 k", "true"}, {"ask 1 4 k", "true"}, {"ask 3 7 k", "true"}, {"ask 7 3 k", "true"},
			{"ask 2 2 k", "false"}, {"blockers 2", "[7 9]"}, {"ask 0 4 k", "false"}, {"blockers 0", "[1]"}, {"ask 5 8 k", "false"}, {"blockers 5", "[0 1 2 3 4 7 9]"},
		},
		"waiters ahead, none behind": {
			{"ask 5 3 k", "true"}, {"ask 3 2 k", "false"}, {"ask 4 3 k", "false"}, {"ask 1 2 k", "false"}, {"ask 2 6 k", "false"},
			{"blockers 3", "[5]"}, {"blockers 4", "[3]"}, {"blockers 1", "[4 5]"}, {"blockers 2", "[1 3 4 5]"},
		},
		"each once, though it holds and waits": {
			{"ask 2 3 k", "true"}, {"ask 1 3 k", "true"}, {"ask 3 6 k", "false"}, {"ask 2 6 k", "false"}, {"ask 1 6 k", "false"},
			{"state k", "2:3 1:3 | 2:6 1:6 3:6"}, {"blockers 2", "[1]"}, {"blockers 1", "[2]"}, {"blockers 3", "[1 2]"},
		},
		"by what it is to have": {
			{"ask 1 3 k", "true"}, {"ask 2 3 k", "true"}, {"ask 3 1 k", "true"}, {"ask 1 2 k", "false"},
			{"waiting 1", "k 5 true"}, {"blockers 1", "[2]"}, {"state k", "1:3 2:3 3:1 | 1:5"}, {"mode 1 k", "3"},
			{"release 2", "[1]"}, {"mode 1 k", "5"}, {"waiting 1", " 0 false"},
		},
		"things without those that it waits for": {
			{"ask 1 3 c", "true"}, {"ask 1 3 a", "true"}, {"ask 2 6 b", "true"}, {"ask 1 1 d", "true"}, {"ask 1 4 a", "true"}, {"ask 1 3 b", "false"},
			{"things 1", "acd"}, {"release 2", "[1]"}, {"things 1", "abcd"},
		},
	} {
		t.Run(name, func(t *testing.T) { run(t, calls) })
	}
}

func TestThingsAreInOrder(t *testing.T) {
	want := rightThings()
	for seed := range uint32(50) {
		l, next := lock.New(), dice(seed)
		list := rightThings()
		for i := range list {
			j := i + next(len(list)-i)
			list[i], list[j] = list[j], list[i]
			l.Ask(1, api.Want{Thing: list[i], Mode: next(8) + 1})
		}
		if got := l.Things(1); !slices.Equal(got, want) {
			t.Fatalf("Things is %v, not %v", got, want)
		}
	}
}

func TestBlockersRise(t *testing.T) {
	all := numbers()
	for seed := range uint32(30) {
		p, next := fresh(t), dice(seed)
		list := numbers()
		for i := range list {
			j := i + next(len(list)-i)
			list[i], list[j] = list[j], list[i]
			p.ask(list[i], api.MShare+next(2)*4, row("k"))
		}
		p.ask(77, api.MAlter, row("k"))
		if got := p.x.Blockers(77); !slices.Equal(got, all) {
			t.Fatalf("Blockers is %v, not %v", got, all)
		}
		p.check(nil, nil)
	}
}

// Asking changes nothing.
func TestAskingChangesNothing(t *testing.T) {
	p, next := fresh(t), dice(3)
	for range 60 {
		p.ask(next(9), next(8)+1, row(string(rune('a'+next(3)))))
	}
	for range 3 {
		p.check(numbers(), append(rightThings(), wrongThings()...))
	}
	p.drain(numbers(), rightThings())
}

// P11.4

// All states that calls lead to, with each call done at each.

// call is one of those that change locks: Ask, if it has a mode, else Cancel or Release.
type call struct {
	txn, mode int
	thing     api.Thing
	cancel    bool
}

func (p *pair) do(c call) {
	p.t.Helper()
	switch {
	case c.mode != 0:
		p.ask(c.txn, c.mode, c.thing)
	case c.cancel:
		p.cancel(c.txn)
	default:
		p.release(c.txn)
	}
}

// calls: all those of some transactions, with some modes and things.
func calls(txns int, some []int, things []api.Thing) []call {
	var list []call
	for txn := 1; txn <= txns; txn++ {
		for _, x := range things {
			for _, mode := range some {
				list = append(list, call{txn: txn, mode: mode, thing: x})
			}
		}
		list = append(list, call{txn: txn, cancel: true}, call{txn: txn})
	}
	return list
}

// look: a state's text: the locks by their things.
func (l *telling) look(things []api.Thing) string {
	text := ""
	for _, x := range things {
		text += show(l.state(x)) + ";"
	}
	return text
}

func TestAllStates(t *testing.T) {
	for _, c := range []struct {
		txns   int
		some   []int
		things []api.Thing
		least  int // states: fewer would tell of calls that lead nowhere
	}{
		{2, []int{1, 2, 3, 4, 5, 6, 7, 8}, []api.Thing{row("k")}, 500},
		{3, []int{2, 3, 4}, []api.Thing{table("t")}, 500},
		{3, []int{7, 4, 8}, []api.Thing{{Kind: api.KDatabase}}, 100},
		{4, []int{3, 6}, []api.Thing{row("k")}, 500},
		{2, []int{2, 3, 6}, []api.Thing{row("j"), row("k")}, 500},
		{3, []int{6}, []api.Thing{row("j"), table("t")}, 100},
	} {
		all := calls(c.txns, c.some, c.things)
		seen := map[string]bool{}
		ways := [][]call{nil}
		for len(ways) > 0 {
			way := ways[0]
			ways = ways[1:]
			for _, last := range all {
				p := fresh(t)
				for _, x := range way {
					p.do(x)
				}
				p.do(last)
				p.check([]int{1, 2, 3, 4, 5}, c.things)
				if s := p.l.look(c.things); !seen[s] {
					seen[s] = true
					ways = append(ways, append(way[:len(way):len(way)], last))
				}
			}
		}
		if len(seen) < c.least {
			t.Errorf("of %d transactions with modes %v there are %d states", c.txns, c.some, len(seen))
		}
	}
}

// spoil: changes a list, its spare room too.
func spoil[T any](list []T, with T) {
	list = list[:cap(list)]
	for i := range list {
		list[i] = with
	}
}

func TestAnswersAreNew(t *testing.T) {
	p, next := fresh(t), dice(5)
	x := []api.Thing{row("j"), row("k"), table("t")}
	for range 2000 {
		txn := next(7)
		switch next(8) {
		case 0:
			p.l.cancel(txn)
			spoil(p.x.Cancel(txn), -99)
		case 1, 2:
			p.l.release(txn)
			spoil(p.x.Release(txn), -99)
		default:
			p.ask(txn, next(8)+1, x[next(3)])
		}
		for txn := range 7 {
			spoil(p.x.Blockers(txn), -99)
			spoil(p.x.Things(txn), api.Thing{Kind: -9, Table: "spoilt", Key: "spoilt"})
		}
		for _, o := range x {
			spoil(p.x.State(o), api.Held{Txn: -99, Mode: -99})
		}
		p.check(nil, x)
	}
}

// What was answered stays as it was, whatever the locks do then, and whatever other answers become.
func TestAnswersStay(t *testing.T) {
	p, next := fresh(t), dice(9)
	type answer struct {
		txns, blockers []int
		state          []api.Held
		things         []api.Thing
		text           string
	}
	var list []answer
	for i := range 600 {
		txn, x := next(9), row(string(rune('a'+next(4))))
		if i%3 == 0 {
			p.l.release(txn)
			list = append(list, answer{txns: p.x.Release(txn)})
		} else {
			p.ask(txn, next(8)+1, x)
			list = append(list, answer{blockers: p.x.Blockers(txn), state: p.x.State(x), things: p.x.Things(txn)})
		}
		last := &list[len(list)-1]
		last.text = fmt.Sprint(last.txns, last.blockers, last.state, last.things)
	}
	for i, a := range list {
		if got := fmt.Sprint(a.txns, a.blockers, a.state, a.things); got != a.text {
			t.Fatalf("what call %d was answered is %s now, not %s", i, got, a.text)
		}
		spoil(a.txns, -99)
		spoil(a.blockers, -99)
		spoil(a.state, api.Held{Txn: -99})
		spoil(a.things, api.Thing{Kind: -9})
	}
	p.check(nil, nil)
}

// A text's bytes are changed behind the locks' back: what is kept is its own, and what was handed in stays.
func TestTextsAreNew(t *testing.T) {
	memory := []byte("table and its key")
	x := api.Thing{Kind: api.KRow, Table: unsafe.String(&memory[0], 5), Key: unsafe.String(&memory[6], 11)}
	want := api.Thing{Kind: api.KRow, Table: "table", Key: "and its key"}
	p := fresh(t)
	p.l.ask(1, api.Want{Thing: want, Mode: api.MShare})
	p.l.ask(2, api.Want{Thing: want, Mode: api.MExclusive})
	p.x.Ask(1, api.Want{Thing: x, Mode: api.MShare})
	p.x.Ask(2, api.Want{Thing: x, Mode: api.MExclusive})
	state, mode := p.x.State(x), p.x.Mode(1, x)
	if string(memory) != "table and its key" || len(state) != 2 || mode != api.MShare {
		t.Errorf("what was handed in is %q now, %v, %d", memory, state, mode)
	}
	clear(memory)
	p.check([]int{1, 2, 3}, []api.Thing{want, {Kind: api.KRow, Table: "\x00\x00\x00\x00\x00", Key: strings.Repeat("\x00", 11)}})
	p.release(1)
	p.check([]int{1, 2, 3}, []api.Thing{want})
	p.release(2)
	p.check([]int{1, 2, 3}, []api.Thing{want})
}

// keeps: how many bytes more there are in memory when something is done.
func keeps(do func()) int {
	var before, behind runtime.MemStats
	runtime.GC()
	runtime.ReadMemStats(&before)
	do()
	runtime.GC()
	runtime.ReadMemStats(&behind)
	return int(behind.HeapAlloc) - int(before.HeapAlloc)
}

// Nothing is kept of locks that were, nor of what was only asked of.
func TestNothingIsKept(t *testing.T) {
	const n = 100_000
	want := func(i, mode int) api.Want { return api.Want{Thing: row(strconv.Itoa(i)), Mode: mode} }
	for name, change := range map[string]func(x *lock.Locks, i int){
		"had":    func(x *lock.Locks, i int) { x.Ask(i, want(i, 3)); x.Release(i) },
		"raised": func(x *lock.Locks, i int) { x.Ask(1, want(0, 3)); x.Ask(1, want(0, 6)); x.Ask(1, want(0, 2)) },
		"waited": func(x *lock.Locks, i int) { x.Ask(i, want(-1, 3)); x.Cancel(i) },
		"let go": func(x *lock.Locks, i int) { x.Ask(i, want(-1, 3)); x.Release(i) },
		"handed": func(x *lock.Locks, i int) { x.Ask(i, want(0, 6)); x.Release(i - 1) },
		"refused": func(x *lock.Locks, i int) {
			x.Ask(i, want(i, 9))
			x.Ask(i, api.Want{Thing: api.Thing{Kind: i}, Mode: 1})
		},
		"asked of": func(x *lock.Locks, i int) {
			x.Mode(i, row(strconv.Itoa(i)))
			x.State(row(strconv.Itoa(i)))
			x.Waiting(i)
		},
		"ended": func(x *lock.Locks, i int) { x.Cancel(i); x.Release(i); x.Blockers(i); x.Things(i) },
	} {
		x := lock.New()
		x.Ask(-9, want(-1, 6))
		kept := keeps(func() {
			for i := range n {
				change(x, i)
			}
		})
		if kept > 1<<20 {
			t.Errorf("%s: %d bytes are kept", name, kept)
		}
		x.Ask(n, want(-1, 3))
		if got := x.Release(-9); !slices.Equal(got, []int{n}) {
			t.Errorf("%s: Release is %v", name, got)
		}
	}
}

// Of a text that is a piece of a greater one the piece alone is kept.
func TestPiecesAreKept(t *testing.T) {
	x := lock.New()
	kept := keeps(func() {
		for i := range 500 {
			text := strings.Repeat(strconv.Itoa(i+1000), 1<<15)
			x.Ask(i, api.Want{Thing: api.Thing{Kind: api.KRow, Table: text[:4], Key: "k"}, Mode: 3})
			x.Ask(i, api.Want{Thing: api.Thing{Kind: api.KRow, Table: "t", Key: text[:4]}, Mode: 6})
			x.Ask(-i-1, api.Want{Thing: api.Thing{Kind: api.KRow, Table: "t", Key: text[4:8]}, Mode: 6})
		}
	})
	if kept > 1<<22 {
		t.Errorf("%d bytes are kept", kept)
	}
	if w, ok := x.Waiting(-1); !ok || w.Thing != row("1000") {
		t.Errorf("Waiting is %v, %v", w, ok)
	}
}

// Many transactions with one thing, and one with many things.
func TestManyLocks(t *testing.T) {
	const n = 3000
	x := lock.New()
	x.Ask(-1, api.Want{Thing: row("k"), Mode: api.MExclusive})
	var all []int
	for i := range n {
		all = append(all, i)
		if ok, e := x.Ask(i, api.Want{Thing: row("k"), Mode: api.MShare}); ok || e != api.OK {
			t.Fatalf("Ask(%d) is %v, %d", i, ok, e)
		}
	}
	if got := x.Release(-1); !slices.Equal(got, all) {
		t.Errorf("Release is %v", got)
	}
	x.Ask(-1, api.Want{Thing: row("k"), Mode: api.MIntentUpdate})
	if got := x.Blockers(-1); !slices.Equal(got, all) {
		t.Errorf("Blockers is %v", got)
	}
	for i := range n {
		x.Ask(0, api.Want{Thing: row(strconv.Itoa(i)), Mode: api.MExclusive})
		x.Ask(-2-i, api.Want{Thing: row(strconv.Itoa(i)), Mode: api.MShare})
	}
	if got := x.Things(0); len(got) != n+1 || !slices.IsSortedFunc(got, func(a, b api.Thing) int { return strings.Compare(a.Key, b.Key) }) {
		t.Errorf("Things is %d ones", len(got))
	}
	if got := x.Release(0); len(got) != n {
		t.Errorf("Release is %d ones", len(got))
	}
	for i := 1; i < n-1; i++ {
		if got := x.Release(i); len(got) != 0 {
			t.Fatalf("Release(%d) is %v", i, got)
		}
	}
	if got := x.Release(n - 1); !slices.Equal(got, []int{-1}) {
		t.Errorf("Release is %v", got)
	}
}

// P1: all calls end, and none panics, at any arguments; and what they come to is as told.

// walk: calls, of each three bytes the first one tells which, the others with what.
func walk(p *pair, calls []byte) {
	p.t.Helper()
	things := []api.Thing{{Kind: api.KDatabase}, table("t"), row("j"), row("k"), row("")}
	for len(calls) >= 3 {
		txn, mode, x := int(calls[1]&7), int(calls[2]&7)+1, things[int(calls[1]>>3)%len(things)]
		switch calls[0] & 15 {
		case 0, 1, 2:
			p.release(txn)
		case 3, 4:
			p.cancel(txn)
		case 5:
			p.ask(txn, int(int8(calls[2])), x)
		case 6:
			p.ask(txn, mode, append(wrongThings(), rightThings()...)[int(calls[1])%(len(wrongThings())+len(rightThings()))])
		case 7, 8, 9:
			p.ask(txn, mode&3+1, x)
		default:
			p.ask(txn, mode, x)
		}
		p.check(nil, things)
		calls = calls[3:]
	}
}

func TestManyCalls(t *testing.T) {
	for seed := range uint32(150) {
		next := dice(seed)
		calls := make([]byte, 3*200)
		for i := range calls {
			calls[i] = byte(next(256))
			if i%3 == 0 && seed%2 == 0 { // fewer let go
				calls[i] |= byte(next(2) * 8)
			}
			if i%3 == 1 && seed%3 == 0 { // one thing alone
				calls[i] = calls[i]&7 | 8
			}
		}
		p := fresh(t)
		walk(p, calls)
		p.drain([]int{0, 1, 2, 3, 4, 5, 6, 7}, nil)
	}
}

func FuzzCalls(f *testing.F) {
	f.Add([]byte{15, 9, 2, 15, 10, 2, 15, 11, 5, 15, 12, 2, 15, 9, 5, 3, 11, 0, 0, 10, 0})
	f.Add([]byte{10, 1, 1, 10, 2, 1, 10, 3, 1, 10, 4, 5, 10, 2, 5, 10, 1, 7, 0, 3, 0, 0, 2, 0, 5, 1, 99})
	f.Fuzz(func(t *testing.T, calls []byte) {
		p := fresh(t)
		walk(p, calls[:min(len(calls), 3*200)])
		p.drain(nil, nil)
	})
}

// FuzzAny: any transactions, things and modes.
func FuzzAny(f *testing.F) {
	f.Add(1, 2, 3, 6, 4, "t", "k")
	f.Add(0, 0, 8, 7, 3, "t", "")
	f.Add(math.MinInt, math.MaxInt, 1, 2, 1, "", "")
	f.Add(-1, 5, 9, 0, -1, "\x00", "\xff")
	f.Fuzz(func(t *testing.T, a, b, mode, other, kind int, name, key string) {
		p := fresh(t)
		for i, n := range []int{kind, api.KRow, api.KTable, api.KDatabase} {
			x := api.Thing{Kind: n, Table: name, Key: key}
			for _, txn := range []int{a, b, a + b, a ^ b} {
				p.ask(txn, mode, x)
				p.ask(txn, other, x)
				p.ask(txn, (mode&7+i)%8+1, x)
				p.ask(txn, other&7+1, api.Thing{Kind: n, Table: key, Key: name})
				p.check([]int{a, b}, []api.Thing{x})
			}
			p.cancel(b)
			p.check([]int{a, b}, []api.Thing{x})
			p.cancel(a + b)
		}
		p.release(mode)
		p.release(b)
		p.check([]int{a, b}, nil)
		p.drain([]int{a, b}, nil)
	})
}

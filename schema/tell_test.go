package schema_test

import (
	"encoding/binary"
	"fmt"
	"reflect"
	"regexp"
	"strings"
	"testing"
	"unsafe"

	"interlock/api"
)

// A telling of the chapter's words of its own, which the package's answers are held against.

var nameForm = regexp.MustCompile(`\A[a-z][a-z0-9_]{0,11}\z`)

func isName(s string) bool { return nameForm.MatchString(s) }

// isRightValue: as chapter 4 tells it.
func isRightValue(v api.Value) bool {
	switch v.Kind {
	case 0:
		return v.N == 0 && v.S == ""
	case 1:
		return v.S == ""
	case 2:
		return v.S == "" && (v.N == 0 || v.N == 1)
	}
	return v.Kind == 3 && v.N == 0 && len(v.S) <= 16
}

// condError: a condition's error, as chapter 12 tells it.
func condError(c api.Cond, cols []api.Col) api.Errno {
	kind := -1
	for i := len(cols) - 1; i >= 0; i-- {
		if cols[i].Name == c.Col {
			kind = cols[i].Kind
		}
	}
	switch {
	case kind == -1:
		return api.ErrNone
	case c.Op < 1, c.Op > 6, !isRightValue(c.With), (c.With.Kind == 0) != (c.Op > 4):
		return api.ErrForm
	case c.Op <= 4 && c.With.Kind != kind:
		return api.ErrType
	}
	return api.OK
}

func condsError(l []api.Cond, cols []api.Col) api.Errno {
	if len(l) > 8 {
		return api.ErrMany
	}
	for _, c := range l {
		if e := condError(c, cols); e != api.OK {
			return e
		}
	}
	return api.OK
}

// twice: is a text there twice?
func twice(texts []string) bool {
	count := map[string]int{}
	for _, s := range texts {
		count[s]++
		if count[s] == 2 {
			return true
		}
	}
	return false
}

func has(texts []string, s string) bool {
	for _, x := range texts {
		if x == s {
			return true
		}
	}
	return false
}

func tableNames(c api.Catalog) (list []string) {
	for _, t := range c.Tables {
		list = append(list, t.Name)
	}
	return list
}

func colNames(t api.Table) (list []string) {
	for _, x := range t.Cols {
		list = append(list, x.Name)
	}
	return list
}

func indexNames(c api.Catalog) (list []string) {
	for _, t := range c.Tables {
		for _, x := range t.Indexes {
			list = append(list, x.Name)
		}
	}
	return list
}

func rulesOf(t api.Table) (list []string) {
	for _, x := range t.Checks {
		list = append(list, x.Name)
	}
	for _, x := range t.Refs {
		list = append(list, x.Name)
	}
	return list
}

// colKind: the Kind of a table's first column of that name; 0, if there is none.
func colKind(t api.Table, name string) int {
	for _, x := range t.Cols {
		if x.Name == name {
			return x.Kind
		}
	}
	return 0
}

// keyKind: the Kind of the key of a catalog's first table of that name; -1, if there is none.
func keyKind(c api.Catalog, name string) int {
	for _, t := range c.Tables {
		if t.Name == name && len(t.Cols) > 0 {
			return t.Cols[0].Kind
		}
	}
	return -1
}

// wrongOfTable: what is wrong in a table; "", if it is right.
func wrongOfTable(c api.Catalog, t api.Table) string {
	switch {
	case !isName(t.Name):
		return "the table's name"
	case !has(c.Roles, t.Owner):
		return "its owner"
	case len(t.Cols) < 1, len(t.Cols) > 8:
		return "how many columns"
	case twice(colNames(t)):
		return "like columns"
	case !t.Cols[0].NotNull, t.Cols[0].Kind == 2:
		return "the key"
	case len(t.Indexes) > 4:
		return "how many indexes"
	case len(t.Checks) > 4:
		return "how many checks"
	case len(t.Refs) > 4:
		return "how many references"
	case twice(rulesOf(t)):
		return "like rules"
	}
	for _, x := range t.Cols {
		if !isName(x.Name) || x.Kind != 1 && x.Kind != 2 && x.Kind != 3 {
			return "a column"
		}
	}
	for _, x := range t.Indexes {
		if !isName(x.Name) || len(x.Cols) < 1 || len(x.Cols) > 4 || twice(x.Cols) || x.State != 1 && x.State != 2 && x.State != 3 {
			return "an index"
		}
		for _, name := range x.Cols {
			if !has(colNames(t), name) {
				return "an index's column"
			}
		}
	}
	for _, name := range rulesOf(t) {
		if !isName(name) {
			return "a rule's name"
		}
	}
	for _, x := range t.Checks {
		if condsError(x.Conds, t.Cols) != api.OK {
			return "a check's conditions"
		}
	}
	for _, x := range t.Refs {
		if !has(colNames(t), x.Col) || keyKind(c, x.To) != colKind(t, x.Col) {
			return "a reference"
		}
	}
	return ""
}

// wrongOf: what is wrong in a catalog; "", if it is right.
func wrongOf(c api.Catalog) string {
	switch {
	case len(c.Tables) > 8:
		return "how many tables"
	case twice(tableNames(c)):
		return "like tables"
	case len(c.Roles) > 8:
		return "how many roles"
	case twice(c.Roles):
		return "like roles"
	case len(c.Roles) == 0, c.Roles[0] != "root":
		return "the first role"
	case twice(indexNames(c)):
		return "like indexes"
	}
	for _, s := range c.Roles {
		if !isName(s) {
			return "a role's name"
		}
	}
	for _, t := range c.Tables {
		if wrong := wrongOfTable(c, t); wrong != "" {
			return wrong
		}
	}
	var pairs, threes []string
	for _, m := range c.Members {
		if !has(c.Roles, m[0]) || !has(c.Roles, m[1]) || m[0] == m[1] {
			return "a member"
		}
		pairs = append(pairs, m[0]+" "+m[1])
	}
	for _, g := range c.Grants {
		if !has(tableNames(c), g.Table) || !has(c.Roles, g.From) || !has(c.Roles, g.To) || g.From == g.To || g.Rights < 1 || g.Rights > 31 {
			return "a grant"
		}
		threes = append(threes, g.Table+" "+g.From+" "+g.To)
	}
	if twice(pairs) || twice(threes) {
		return "like members or grants"
	}
	return ""
}

// A change is told as what it adds, or what it names.
type change struct {
	what  string
	table string
	name  string
	state int
	t     api.Table
	col   api.Col
	x     api.Index
	k     api.Check
	r     api.Ref
}

// toldOf: the catalog behind a change of a right one, and the error, in the chapter's order.
func toldOf(c api.Catalog, x change) (api.Catalog, api.Errno) {
	d := copyOf(c)
	at := -1
	for i, name := range tableNames(c) {
		if name == x.table {
			at = i
		}
	}
	var t *api.Table
	if at >= 0 {
		t = &d.Tables[at]
	}
	e := api.OK
	switch x.what {
	case "AddTable":
		e = tellAddTable(&d, x.t)
	case "DropTable":
		e = tellDropTable(&d, at)
	case "AddCol":
		e = tellAddCol(t, x.col)
	case "AddIndex":
		e = tellAddIndex(d, t, x.x)
	case "DropIndex", "Mark":
		e = tellIndex(&d, x)
	case "AddCheck":
		e = tellAddCheck(t, x.k)
	case "AddRef":
		e = tellAddRef(d, t, x.r)
	}
	if e != api.OK {
		return api.Catalog{}, e
	}
	return d, e
}

func tellAddTable(d *api.Catalog, t api.Table) api.Errno {
	switch {
	case !isName(t.Name):
		return api.ErrName
	case has(tableNames(*d), t.Name):
		return api.ErrThere
	case len(d.Tables) == 8:
		return api.ErrMany
	}
	d.Tables = append(d.Tables, copyOf(t))
	if wrongOf(*d) != "" {
		return api.ErrForm
	}
	return api.OK
}

func tellDropTable(d *api.Catalog, at int) api.Errno {
	if at < 0 {
		return api.ErrNone
	}
	was := *d
	name := was.Tables[at].Name
	d.Tables, d.Grants = nil, nil
	for i, t := range was.Tables {
		for _, r := range t.Refs {
			if i != at && r.To == name {
				return api.ErrUsed
			}
		}
		if i != at {
			d.Tables = append(d.Tables, t)
		}
	}
	for _, g := range was.Grants {
		if g.Table != name {
			d.Grants = append(d.Grants, g)
		}
	}
	return api.OK
}

func tellAddCol(t *api.Table, col api.Col) api.Errno {
	switch {
	case !isName(col.Name):
		return api.ErrName
	case t != nil && has(colNames(*t), col.Name):
		return api.ErrThere
	case t == nil:
		return api.ErrNone
	case len(t.Cols) == 8:
		return api.ErrMany
	case col.NotNull, col.Kind < 1, col.Kind > 3:
		return api.ErrForm
	}
	t.Cols = append(t.Cols, col)
	return api.OK
}

func tellAddIndex(d api.Catalog, t *api.Table, x api.Index) api.Errno {
	switch {
	case !isName(x.Name):
		return api.ErrName
	case has(indexNames(d), x.Name):
		return api.ErrThere
	case t == nil:
		return api.ErrNone
	}
	for _, name := range x.Cols {
		if !has(colNames(*t), name) {
			return api.ErrNone
		}
	}
	switch {
	case len(t.Indexes) == 4:
		return api.ErrMany
	case len(x.Cols) == 0, len(x.Cols) > 4, twice(x.Cols), x.State < 1, x.State > 3:
		return api.ErrForm
	}
	t.Indexes = append(t.Indexes, copyOf(x))
	return api.OK
}

func tellIndex(d *api.Catalog, x change) api.Errno {
	for i := range d.Tables {
		t := &d.Tables[i]
		for k, found := range t.Indexes {
			if found.Name != x.name {
				continue
			}
			if x.what == "DropIndex" {
				t.Indexes = append(append([]api.Index{}, t.Indexes[:k]...), t.Indexes[k+1:]...)
				return api.OK
			}
			t.Indexes[k].State = x.state
			if x.state < 1 || x.state > 3 {
				return api.ErrForm
			}
			return api.OK
		}
	}
	return api.ErrNone
}

func tellAddCheck(t *api.Table, k api.Check) api.Errno {
	switch {
	case !isName(k.Name):
		return api.ErrName
	case t == nil:
		return api.ErrNone
	case has(rulesOf(*t), k.Name):
		return api.ErrThere
	case len(t.Checks) == 4:
		return api.ErrMany
	}
	t.Checks = append(t.Checks, copyOf(k))
	return condsError(k.Conds, t.Cols)
}

func tellAddRef(d api.Catalog, t *api.Table, r api.Ref) api.Errno {
	switch {
	case !isName(r.Name):
		return api.ErrName
	case t == nil:
		return api.ErrNone
	case has(rulesOf(*t), r.Name):
		return api.ErrThere
	case !has(colNames(*t), r.Col), !has(tableNames(d), r.To):
		return api.ErrNone
	case len(t.Refs) == 4:
		return api.ErrMany
	case colKind(*t, r.Col) != keyKind(d, r.To):
		return api.ErrType
	}
	t.Refs = append(t.Refs, r)
	return api.OK
}

// A catalog's bytes, by the chapter's words: numbers as encoding/binary has them.

type told []byte

func (b *told) num(n int) { *b = binary.AppendVarint(*b, int64(n)) }

func (b *told) bit(is bool) { b.num(map[bool]int{true: 1}[is]) }

func (b *told) text(s string) {
	b.num(len(s))
	*b = append(*b, s...)
}

func (b *told) texts(list []string) {
	b.num(len(list))
	for _, s := range list {
		b.text(s)
	}
}

// row: a row of one value as bytes, as chapter 4 tells it; of a wrong value none.
func row(v api.Value) string {
	var b told
	if isRightValue(v) {
		b.num(1)
		b.num(v.Kind)
	}
	switch {
	case !isRightValue(v):
	case v.Kind == 3:
		b.text(v.S)
	case v.Kind != 0:
		b.num(v.N)
	}
	return string(b)
}

func bytesOf(c api.Catalog) []byte {
	var b told
	b.num(len(c.Tables))
	for _, t := range c.Tables {
		b.text(t.Name)
		b.text(t.Owner)
		b.num(len(t.Cols))
		for _, x := range t.Cols {
			b.text(x.Name)
			b.num(x.Kind)
			b.bit(x.NotNull)
		}
		b.num(len(t.Indexes))
		for _, x := range t.Indexes {
			b.text(x.Name)
			b.texts(x.Cols)
			b.bit(x.Unique)
			b.num(x.State)
		}
		b.num(len(t.Checks))
		for _, x := range t.Checks {
			b.text(x.Name)
			b.num(len(x.Conds))
			for _, k := range x.Conds {
				b.text(k.Col)
				b.num(k.Op)
				b.text(row(k.With))
			}
		}
		b.num(len(t.Refs))
		for _, x := range t.Refs {
			b.text(x.Name)
			b.text(x.Col)
			b.text(x.To)
		}
	}
	b.texts(c.Roles)
	b.num(len(c.Members))
	for _, m := range c.Members {
		b.text(m[0])
		b.text(m[1])
	}
	b.num(len(c.Grants))
	for _, g := range c.Grants {
		b.text(g.Table)
		b.text(g.From)
		b.text(g.To)
		b.num(g.Rights)
	}
	return b
}

// A scanner reads bytes as bytesOf writes them. It isn't strict: whether these are just the bytes is asked behind it, by writing them again.
type scanner struct {
	b   []byte
	bad bool
}

func (s *scanner) num() int {
	n, size := binary.Varint(s.b)
	if size <= 0 {
		s.b, s.bad = nil, true
		return 0
	}
	s.b = s.b[size:]
	return int(n)
}

func (s *scanner) text() string {
	n := s.num()
	if n < 0 || n > len(s.b) {
		s.b, s.bad = nil, true
		return ""
	}
	text := string(s.b[:n])
	s.b = s.b[n:]
	return text
}

// all: reads so many items.
func all[T any](s *scanner, one func() T) []T {
	var list []T
	n := s.num()
	if n < 0 || n > len(s.b) {
		s.b, s.bad = nil, true
	}
	for range n {
		if s.bad {
			return nil
		}
		list = append(list, one())
	}
	return list
}

func (s *scanner) value() api.Value {
	in := scanner{b: []byte(s.text())}
	in.num()
	v := api.Value{Kind: in.num()}
	switch v.Kind {
	case 1, 2:
		v.N = in.num()
	case 3:
		v.S = in.text()
	}
	return v
}

// catalogOf: the right catalog whose bytes these are.
func catalogOf(b []byte) (api.Catalog, bool) {
	s := &scanner{b: b}
	var c api.Catalog
	c.Tables = all(s, func() (t api.Table) {
		t.Name, t.Owner = s.text(), s.text()
		t.Cols = all(s, func() (x api.Col) {
			x.Name, x.Kind, x.NotNull = s.text(), s.num(), s.num() == 1
			return x
		})
		t.Indexes = all(s, func() (x api.Index) {
			x.Name, x.Cols, x.Unique, x.State = s.text(), all(s, s.text), s.num() == 1, s.num()
			return x
		})
		t.Checks = all(s, func() (x api.Check) {
			x.Name, x.Conds = s.text(), all(s, func() (k api.Cond) {
				k.Col, k.Op, k.With = s.text(), s.num(), s.value()
				return k
			})
			return x
		})
		t.Refs = all(s, func() (x api.Ref) {
			x.Name, x.Col, x.To = s.text(), s.text(), s.text()
			return x
		})
		return t
	})
	c.Roles = all(s, s.text)
	c.Members = all(s, func() [2]string { return [2]string{s.text(), s.text()} })
	c.Grants = all(s, func() (g api.Grant) {
		g.Table, g.From, g.To, g.Rights = s.text(), s.text(), s.text(), s.num()
		return g
	})
	if s.bad || string(bytesOf(c)) != string(b) || wrongOf(c) != "" {
		return api.Catalog{}, false
	}
	return c, true
}

// Values of any type, gone over part by part.

// visit: a call with each part of a value: the value itself, fields, elements.
func visit(v reflect.Value, call func(v reflect.Value)) {
	call(v)
	switch v.Kind() {
	case reflect.Struct:
		for i := range v.NumField() {
			visit(v.Field(i), call)
		}
	case reflect.Slice, reflect.Array:
		for i := range v.Len() {
			visit(v.Index(i), call)
		}
	}
}

// tell: a value as text; lists that are nil and empty ones are told alike.
func tell(x any) string {
	var b strings.Builder
	visit(reflect.ValueOf(x), func(v reflect.Value) {
		switch v.Kind() {
		case reflect.Slice:
			fmt.Fprintf(&b, "list of %d ", v.Len())
		case reflect.String:
			fmt.Fprintf(&b, "%q ", v.String())
		case reflect.Int, reflect.Bool:
			fmt.Fprintf(&b, "%v ", v)
		}
	})
	return b.String()
}

// copyOf: a value as new memory.
func copyOf[T any](x T) T {
	d := x
	visit(reflect.ValueOf(&d).Elem(), func(v reflect.Value) {
		switch v.Kind() {
		case reflect.Slice:
			list := reflect.MakeSlice(v.Type(), v.Len(), v.Len())
			reflect.Copy(list, v)
			v.Set(list)
		case reflect.String:
			v.SetString(strings.Clone(v.String()))
		}
	})
	return d
}

// roomy: a value as new memory, with spare room behind all lists, full of what mustn't be changed.
func roomy[T any](x T) T {
	d := copyOf(x)
	visit(reflect.ValueOf(&d).Elem(), func(v reflect.Value) {
		if v.Kind() != reflect.Slice {
			return
		}
		list := reflect.MakeSlice(v.Type(), v.Len()+3, v.Len()+3)
		reflect.Copy(list, v)
		for i := v.Len(); i < list.Len(); i++ {
			junk(list.Index(i))
		}
		v.Set(list.Slice(0, v.Len()))
	})
	return d
}

// junk: fills a value's parts with what no catalog has.
func junk(v reflect.Value) {
	visit(v, func(v reflect.Value) {
		switch v.Kind() {
		case reflect.String:
			v.SetString("junk!")
		case reflect.Int:
			v.SetInt(-77)
		case reflect.Bool:
			v.SetBool(!v.Bool())
		}
	})
}

// whole: a value whose lists have their spare room, too.
func whole[T any](x T) T {
	d := copyOf(x)
	from, to := reflect.ValueOf(&x).Elem(), reflect.ValueOf(&d).Elem()
	var widen func(from, to reflect.Value)
	widen = func(from, to reflect.Value) {
		switch from.Kind() {
		case reflect.Struct:
			for i := range from.NumField() {
				widen(from.Field(i), to.Field(i))
			}
		case reflect.Slice:
			list := reflect.MakeSlice(from.Type(), from.Cap(), from.Cap())
			reflect.Copy(list, from.Slice(0, from.Cap()))
			to.Set(list)
			for i := range from.Len() {
				widen(from.Index(i), to.Index(i))
			}
		}
	}
	widen(from, to)
	return d
}

// area: a piece of memory.
type area struct{ from, to uintptr }

func (a area) meets(b area) bool { return a.from < b.to && b.from < a.to }

// areas: the memory of a value's lists, spare room too, and of its texts.
func areas(x any) (lists, texts []area) {
	visit(reflect.ValueOf(x), func(v reflect.Value) {
		switch {
		case v.Kind() == reflect.Slice && v.Cap() > 0:
			from := v.Pointer()
			lists = append(lists, area{from, from + uintptr(v.Cap())*v.Type().Elem().Size()})
		case v.Kind() == reflect.String && v.Len() > 0:
			from := uintptr(unsafe.Pointer(unsafe.StringData(v.String())))
			texts = append(texts, area{from, from + uintptr(v.Len())})
		}
	})
	return lists, texts
}

// checkNew: what is answered is memory of its own: no two of its lists share any, and none is what was handed in.
func checkNew(t *testing.T, answer any, given ...any) {
	t.Helper()
	lists, texts := areas(answer)
	for i, a := range lists {
		for _, b := range lists[:i] {
			if a.meets(b) {
				t.Fatal("two lists of an answer share memory")
			}
		}
	}
	for _, x := range given {
		givenLists, givenTexts := areas(x)
		for _, a := range lists {
			for _, b := range givenLists {
				if a.meets(b) {
					t.Fatal("a list of an answer is memory that was handed in")
				}
			}
		}
		for _, a := range texts {
			for _, b := range givenTexts {
				if a.meets(b) {
					t.Fatal("a text of an answer is memory that was handed in")
				}
			}
		}
	}
}

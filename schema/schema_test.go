package schema_test

import (
	"bytes"
	"fmt"
	"math"
	"math/rand"
	"reflect"
	"strings"
	"testing"
	"unsafe"

	"interlock/api"
	"interlock/schema"
)

func num(n int) api.Value { return api.Value{Kind: api.VInt, N: n} }

func text(s string) api.Value { return api.Value{Kind: api.VText, S: s} }

func is(col string, op int, with api.Value) api.Cond { return api.Cond{Col: col, Op: op, With: with} }

func id() api.Col { return api.Col{Name: "id", Kind: api.VInt, NotNull: true} }

// plain: a table of a key alone.
func plain(name string) api.Table {
	return api.Table{Name: name, Owner: "root", Cols: []api.Col{id()}}
}

// shop: a right catalog with something of each kind.
func shop() api.Catalog {
	return api.Catalog{
		Tables: []api.Table{
			{
				Name: "t", Owner: "root",
				Cols:    []api.Col{id(), {Name: "b", Kind: api.VText}, {Name: "c", Kind: api.VBool, NotNull: true}, {Name: "d", Kind: api.VInt}},
				Indexes: []api.Index{{Name: "x", Cols: []string{"b", "id"}, Unique: true, State: api.IBuilding}, {Name: "y", Cols: []string{"c"}, State: api.IValid}},
				Checks:  []api.Check{{Name: "k", Conds: []api.Cond{is("id", api.CAbove, num(-3)), is("b", api.CUnlike, text("no \xff")), is("d", api.CSome, api.Value{})}}, {Name: "none"}},
				Refs:    []api.Ref{{Name: "r", Col: "d", To: "u"}},
			},
			{Name: "u", Owner: "p", Cols: []api.Col{id(), {Name: "n", Kind: api.VText}}},
			{
				Name: "w", Owner: "q",
				Cols:    []api.Col{{Name: "name", Kind: api.VText, NotNull: true}, {Name: "e", Kind: api.VInt}, {Name: "id", Kind: api.VText}},
				Indexes: []api.Index{{Name: "z", Cols: []string{"name"}, State: api.IInvalid}},
				Refs:    []api.Ref{{Name: "k", Col: "e", To: "u"}, {Name: "self", Col: "id", To: "w"}},
			},
		},
		Roles:   []string{"root", "p", "q", "a_234567890z"},
		Members: [][2]string{{"p", "q"}, {"q", "p"}, {"a_234567890z", "root"}},
		Grants:  []api.Grant{{Table: "t", From: "root", To: "p", Rights: 17}, {Table: "t", From: "p", To: "root", Rights: 31}, {Table: "u", From: "root", To: "p", Rights: 1}, {Table: "t", From: "p", To: "q", Rights: 2}},
	}
}

// full: a right catalog that has as many of all as may be.
func full() api.Catalog {
	c := schema.First()
	for i := 1; i < 8; i++ {
		c.Roles = append(c.Roles, fmt.Sprint("role", i))
	}
	for i := range 8 {
		t := api.Table{Name: fmt.Sprint("t", i), Owner: c.Roles[i]}
		for k := range 8 {
			t.Cols = append(t.Cols, api.Col{Name: fmt.Sprint("c", k), Kind: 1, NotNull: k%2 == 0})
		}
		for k := range 4 {
			t.Indexes = append(t.Indexes, api.Index{Name: fmt.Sprintf("x%d%d", i, k), Cols: colNames(t)[k : k+4], Unique: k%2 == 1, State: 1 + (i+k)%3})
			var conds []api.Cond
			for n := range 8 {
				conds = append(conds, is(fmt.Sprint("c", n), 1+k, num(n*i)))
			}
			t.Checks = append(t.Checks, api.Check{Name: fmt.Sprint("k", k), Conds: conds})
			t.Refs = append(t.Refs, api.Ref{Name: fmt.Sprint("r", k), Col: fmt.Sprint("c", 2*k), To: fmt.Sprint("t", (i+k)%8)})
		}
		c.Tables = append(c.Tables, t)
	}
	for _, from := range c.Roles {
		for _, to := range c.Roles {
			if from == to {
				continue
			}
			c.Members = append(c.Members, [2]string{from, to})
			for i, t := range c.Tables {
				c.Grants = append(c.Grants, api.Grant{Table: t.Name, From: from, To: to, Rights: 1 + i*4})
			}
		}
	}
	return c
}

// P13.1: Name, Right, First, Find, FindIndex, Clone.

func checkName(t *testing.T, s string, want bool) {
	t.Helper()
	if got := schema.Name(s); got != want {
		t.Fatalf("Name(%.40q) is %v", s, got)
	}
}

func TestName(t *testing.T) {
	for _, s := range []string{"a", "z", "a1", "a_", "a__9z", "abcdefghijkl", "a23456789012", "root", "null", "z___________"} {
		checkName(t, s, true)
	}
	for _, s := range []string{"", "_", "_a", "1", "1a", "9", "A", "aB", "Ab", "a b", " a", "a ", "a-b", "a\n", "\na", "a\x00", "a.b", "ab:", "a`", "a{", "a/", "\xc3\xa4", "a\xc3\xa4", "abcdefghijklm", "a234567890123", "a" + strings.Repeat("_", 1000)} {
		checkName(t, s, false)
	}
	for i := range 1 << 16 {
		one, two := string([]byte{byte(i)}), string([]byte{byte(i >> 8), byte(i)})
		checkName(t, one, isName(one))
		checkName(t, two, isName(two))
	}
	for long := 1; long <= 14; long++ {
		for at := range long {
			for c := range 256 {
				b := bytes.Repeat([]byte{'a'}, long)
				b[at] = byte(c)
				checkName(t, string(b), isName(string(b)))
			}
		}
	}
}

func checkRight(t *testing.T, c api.Catalog, want bool) {
	t.Helper()
	if got := schema.Right(c); got != want {
		t.Fatalf("Right is %v, but what is wrong is %q: %.2000s", got, wrongOf(c), tell(c))
	}
}

func TestRightCatalogs(t *testing.T) {
	for _, c := range []api.Catalog{schema.First(), shop(), full()} {
		checkRight(t, c, true)
		if wrong := wrongOf(c); wrong != "" {
			t.Fatal("the telling finds wrong:", wrong)
		}
	}
	checkRight(t, api.Catalog{}, false)
	checkRight(t, api.Catalog{Roles: []string{"p"}}, false)
	checkRight(t, api.Catalog{Roles: []string{"p", "root"}}, false)
	checkRight(t, api.Catalog{Roles: []string{"root", "root"}}, false)
	checkRight(t, api.Catalog{Tables: []api.Table{plain("t")}}, false)
}

// An edit changes the shop's catalog: it is right then, or it isn't.
type edit struct {
	right bool
	what  string
	do    func(c *api.Catalog)
}

func edits() []edit {
	return append(append(tableEdits(), ruleEdits()...), roleEdits()...)
}

func tableEdits() []edit {
	return []edit{
		{true, "8 tables", func(c *api.Catalog) {
			for i := range 5 {
				c.Tables = append(c.Tables, plain(fmt.Sprint("t", i)))
			}
		}},
		{false, "9 tables", func(c *api.Catalog) {
			for i := range 6 {
				c.Tables = append(c.Tables, plain(fmt.Sprint("t", i)))
			}
		}},
		{false, "two tables of one name", func(c *api.Catalog) { c.Tables = append(c.Tables, plain("u")) }},
		{false, "a table's name of 13 bytes", func(c *api.Catalog) { c.Tables = append(c.Tables, plain("a234567890123")) }},
		{true, "a table's name of 12 bytes", func(c *api.Catalog) { c.Tables = append(c.Tables, plain("a23456789012")) }},
		{false, "a table without name", func(c *api.Catalog) { c.Tables = append(c.Tables, plain("")) }},
		{true, "a table that is called as an index, a role, a column and a check", func(c *api.Catalog) {
			for _, name := range []string{"x", "root", "b", "k"} {
				c.Tables = append(c.Tables, plain(name))
			}
		}},
		{false, "an owner that is no role", func(c *api.Catalog) { c.Tables[0].Owner = "nobody" }},
		{false, "no owner", func(c *api.Catalog) { c.Tables[0].Owner = "" }},
		{false, "no columns", func(c *api.Catalog) { c.Tables = append(c.Tables, api.Table{Name: "no", Owner: "root"}) }},
		{true, "8 columns", func(c *api.Catalog) {
			for i := range 6 {
				c.Tables[1].Cols = append(c.Tables[1].Cols, api.Col{Name: fmt.Sprint("c", i), Kind: 2, NotNull: true})
			}
		}},
		{false, "9 columns", func(c *api.Catalog) {
			for i := range 7 {
				c.Tables[1].Cols = append(c.Tables[1].Cols, api.Col{Name: fmt.Sprint("c", i), Kind: 2})
			}
		}},
		{false, "two columns of one name", func(c *api.Catalog) { c.Tables[1].Cols[1].Name = "id" }},
		{false, "a column's name with a great letter", func(c *api.Catalog) { c.Tables[1].Cols[1].Name = "N" }},
		{false, "a column without name", func(c *api.Catalog) { c.Tables[1].Cols[1].Name = "" }},
		{false, "a column of Kind 0", func(c *api.Catalog) { c.Tables[1].Cols[1].Kind = 0 }},
		{false, "a column of Kind 4", func(c *api.Catalog) { c.Tables[1].Cols[1].Kind = 4 }},
		{false, "a column of Kind -1", func(c *api.Catalog) { c.Tables[1].Cols[1].Kind = -1 }},
		{false, "a key of Kind 0", func(c *api.Catalog) {
			c.Tables = append(c.Tables, api.Table{Name: "v", Owner: "p", Cols: []api.Col{{Name: "v", NotNull: true}}})
		}},
		{false, "a key that may be null", func(c *api.Catalog) { c.Tables[2].Cols[0].NotNull = false }},
		{false, "a key that is a truth", func(c *api.Catalog) {
			c.Tables = append(c.Tables, api.Table{Name: "v", Owner: "p", Cols: []api.Col{{Name: "v", Kind: api.VBool, NotNull: true}}})
		}},
		{true, "4 indexes", func(c *api.Catalog) {
			for i := range 3 {
				c.Tables[2].Indexes = append(c.Tables[2].Indexes, api.Index{Name: fmt.Sprint("i", i), Cols: []string{"id", "e", "name"}, State: 1 + i})
			}
		}},
		{false, "5 indexes", func(c *api.Catalog) {
			for i := range 4 {
				c.Tables[2].Indexes = append(c.Tables[2].Indexes, api.Index{Name: fmt.Sprint("i", i), Cols: []string{"id"}, State: 1})
			}
		}},
		{false, "two indexes of one name in one table", func(c *api.Catalog) { c.Tables[0].Indexes[1].Name = "x" }},
		{false, "two indexes of one name in two tables", func(c *api.Catalog) { c.Tables[2].Indexes[0].Name = "y" }},
		{false, "an index's name that begins with a digit", func(c *api.Catalog) { c.Tables[2].Indexes[0].Name = "1" }},
		{false, "an index without columns", func(c *api.Catalog) { c.Tables[2].Indexes[0].Cols = nil }},
		{true, "an index of 4 columns", func(c *api.Catalog) { c.Tables[0].Indexes[1].Cols = []string{"d", "c", "b", "id"} }},
		{false, "an index of 5 columns", func(c *api.Catalog) {
			c.Tables[0].Cols = append(c.Tables[0].Cols, api.Col{Name: "e", Kind: 1})
			c.Tables[0].Indexes[1].Cols = []string{"d", "c", "b", "id", "e"}
		}},
		{false, "an index with a column twice", func(c *api.Catalog) { c.Tables[0].Indexes[1].Cols = []string{"d", "c", "d"} }},
		{false, "an index of another table's column", func(c *api.Catalog) { c.Tables[0].Indexes[1].Cols = []string{"d", "name"} }},
		{true, "an index of its own name's column", func(c *api.Catalog) { c.Tables[0].Indexes[1].Name = "c" }},
		{false, "an index of state 0", func(c *api.Catalog) { c.Tables[0].Indexes[1].State = 0 }},
		{false, "an index of state 4", func(c *api.Catalog) { c.Tables[0].Indexes[1].State = 4 }},
		{false, "an index of state -1", func(c *api.Catalog) { c.Tables[0].Indexes[1].State = -1 }},
	}
}

func ruleEdits() []edit {
	return []edit{
		{true, "4 checks, 4 references", func(c *api.Catalog) {
			for i := range 4 {
				c.Tables[1].Checks = append(c.Tables[1].Checks, api.Check{Name: fmt.Sprint("k", i)})
				c.Tables[1].Refs = append(c.Tables[1].Refs, api.Ref{Name: fmt.Sprint("r", i), Col: "id", To: "t"})
			}
		}},
		{true, "4 references without checks", func(c *api.Catalog) {
			for i := range 4 {
				c.Tables[1].Refs = append(c.Tables[1].Refs, api.Ref{Name: fmt.Sprint("r", i), Col: "n", To: "w"})
			}
		}},
		{false, "5 checks", func(c *api.Catalog) {
			for i := range 5 {
				c.Tables[1].Checks = append(c.Tables[1].Checks, api.Check{Name: fmt.Sprint("k", i)})
			}
		}},
		{false, "5 references", func(c *api.Catalog) {
			for i := range 5 {
				c.Tables[1].Refs = append(c.Tables[1].Refs, api.Ref{Name: fmt.Sprint("r", i), Col: "id", To: "t"})
			}
		}},
		{false, "two checks of one name", func(c *api.Catalog) { c.Tables[0].Checks[1].Name = "k" }},
		{false, "two references of one name", func(c *api.Catalog) { c.Tables[2].Refs[1].Name = "k" }},
		{false, "a check and a reference of one name", func(c *api.Catalog) { c.Tables[0].Refs[0].Name = "k" }},
		{true, "checks of one name in two tables", func(c *api.Catalog) { c.Tables[1].Checks = []api.Check{{Name: "k"}} }},
		{false, "a check without name", func(c *api.Catalog) { c.Tables[0].Checks[1].Name = "" }},
		{false, "a reference's name with a stroke", func(c *api.Catalog) { c.Tables[0].Refs[0].Name = "a-b" }},
		{true, "a check of 8 conditions", func(c *api.Catalog) {
			for range 8 {
				c.Tables[0].Checks[1].Conds = append(c.Tables[0].Checks[1].Conds, is("b", api.CNull, api.Value{}))
			}
		}},
		{false, "a check of 9 conditions", func(c *api.Catalog) {
			for range 9 {
				c.Tables[0].Checks[1].Conds = append(c.Tables[0].Checks[1].Conds, is("b", api.CNull, api.Value{}))
			}
		}},
		{false, "a check on no column", func(c *api.Catalog) { c.Tables[0].Checks[0].Conds[2].Col = "e" }},
		{false, "a check with no comparison", func(c *api.Catalog) { c.Tables[0].Checks[0].Conds[2].Op = 7 }},
		{false, "a check with a wrong value", func(c *api.Catalog) { c.Tables[0].Checks[0].Conds[1].With.S = strings.Repeat("x", 17) }},
		{false, "a check with a value of another Kind", func(c *api.Catalog) { c.Tables[0].Checks[0].Conds[0].With = text("5") }},
		{false, "a reference of no column", func(c *api.Catalog) { c.Tables[0].Refs[0].Col = "e" }},
		{false, "a reference to no table", func(c *api.Catalog) { c.Tables[0].Refs[0].To = "x" }},
		{false, "a reference to nothing", func(c *api.Catalog) { c.Tables[0].Refs[0].To = "" }},
		{false, "a reference to a key of another Kind", func(c *api.Catalog) { c.Tables[0].Refs[0].To = "w" }},
		{true, "a reference to its own table", func(c *api.Catalog) { c.Tables[0].Refs[0].To = "t" }},
		{true, "a reference of the key", func(c *api.Catalog) { c.Tables[0].Refs[0].Col = "id" }},
		{false, "a reference to a table without columns", func(c *api.Catalog) {
			c.Tables[2].Refs[0].To, c.Tables[1].Cols = "t", nil
		}},
		{false, "a column without Kind that refers to a table without columns", func(c *api.Catalog) { c.Tables[0].Cols[3].Kind, c.Tables[1].Cols = 0, nil }},
	}
}

func roleEdits() []edit {
	return []edit{
		{true, "8 roles", func(c *api.Catalog) { c.Roles = append(c.Roles, "r1", "r2", "r3", "r4") }},
		{false, "9 roles", func(c *api.Catalog) { c.Roles = append(c.Roles, "r1", "r2", "r3", "r4", "r5") }},
		{false, "two roles of one name", func(c *api.Catalog) { c.Roles = append(c.Roles, "q") }},
		{false, "root twice", func(c *api.Catalog) { c.Roles = append(c.Roles, "root") }},
		{false, "a role's name of 13 bytes", func(c *api.Catalog) { c.Roles = append(c.Roles, "a234567890123") }},
		{false, "a role without name", func(c *api.Catalog) { c.Roles = append(c.Roles, "") }},
		{false, "root isn't the first one", func(c *api.Catalog) { c.Roles[0], c.Roles[1] = c.Roles[1], c.Roles[0] }},
		{false, "a member that is no role", func(c *api.Catalog) { c.Members[0][0] = "s" }},
		{false, "a member of no role", func(c *api.Catalog) { c.Members[0][1] = "t" }},
		{false, "a member of itself", func(c *api.Catalog) { c.Members[0][1] = "p" }},
		{false, "a pair twice", func(c *api.Catalog) { c.Members = append(c.Members, c.Members[1]) }},
		{true, "root as a member", func(c *api.Catalog) { c.Members = append(c.Members, [2]string{"root", "p"}) }},
		{false, "a grant of no table", func(c *api.Catalog) { c.Grants[0].Table = "p" }},
		{false, "a grant from no role", func(c *api.Catalog) { c.Grants[0].From = "t" }},
		{false, "a grant to no role", func(c *api.Catalog) { c.Grants[0].To = "" }},
		{false, "a grant to itself", func(c *api.Catalog) { c.Grants[0].To = "root" }},
		{false, "a grant of no rights", func(c *api.Catalog) { c.Grants[0].Rights = 0 }},
		{false, "a grant of 32", func(c *api.Catalog) { c.Grants[0].Rights = 32 }},
		{false, "a grant of -1", func(c *api.Catalog) { c.Grants[0].Rights = -1 }},
		{true, "a grant of 16", func(c *api.Catalog) { c.Grants[0].Rights = 16 }},
		{false, "three twice, with other rights", func(c *api.Catalog) {
			c.Grants = append(c.Grants, api.Grant{Table: "t", From: "p", To: "q", Rights: 4})
		}},
		{true, "three the other way round", func(c *api.Catalog) {
			c.Grants = append(c.Grants, api.Grant{Table: "t", From: "q", To: "p", Rights: 2})
		}},
	}
}

func TestRightEdges(t *testing.T) {
	for _, x := range edits() {
		c := shop()
		x.do(&c)
		if got := schema.Right(c); got != x.right {
			t.Fatalf("with %s Right is %v", x.what, got)
		}
		if wrong := wrongOf(c); (wrong == "") != x.right {
			t.Fatalf("with %s the telling finds wrong: %q", x.what, wrong)
		}
		checkBytes(t, c)
	}
}

// others: what a text, a number or a truth is changed to.
func others(v reflect.Value) (list []any) {
	switch v.Kind() {
	case reflect.String:
		for _, s := range []string{"", "T", "root", "p", "q", "t", "u", "w", "id", "b", "c", "name", "x", "y", "z", "k", "r", "none", "a23456789012", "a234567890123", "1a", "_a", "a-b", "a\x00", "\xff", strings.Repeat("x", 17)} {
			list = append(list, s)
		}
	case reflect.Int:
		for n := -2; n <= 8; n++ {
			list = append(list, n, n+256, n+1<<32)
		}
		list = append(list, 15, 16, 30, 31, 32, 33, -31, math.MinInt, math.MaxInt)
	case reflect.Bool:
		list = append(list, !v.Bool())
	case reflect.Slice:
		for i := range v.Len() {
			without := reflect.MakeSlice(v.Type(), 0, v.Len())
			without = reflect.AppendSlice(without, v.Slice(0, i))
			without = reflect.AppendSlice(without, v.Slice(i+1, v.Len()))
			list = append(list, without.Interface(), reflect.Append(v, v.Index(i)).Interface())
			front := reflect.MakeSlice(v.Type(), 0, v.Len())
			front = reflect.Append(front, v.Index(i))
			list = append(list, reflect.AppendSlice(front, without).Interface())
		}
		list = append(list, reflect.Append(v, reflect.Zero(v.Type().Elem())).Interface(), reflect.Zero(v.Type()).Interface())
	}
	return list
}

// parts: a catalog's parts.
func parts(c *api.Catalog) (list []reflect.Value) {
	visit(reflect.ValueOf(c).Elem(), func(v reflect.Value) { list = append(list, v) })
	return list
}

// near: all catalogs that differ from one in one part.
func near(c api.Catalog, call func(d api.Catalog)) {
	for i, part := range parts(&c) {
		for _, other := range others(part) {
			d := copyOf(c)
			parts(&d)[i].Set(reflect.ValueOf(copyOf(other)))
			call(d)
		}
	}
}

func TestRightNear(t *testing.T) {
	count := map[bool]int{}
	near(shop(), func(d api.Catalog) {
		want := wrongOf(d) == ""
		count[want]++
		checkRight(t, d, want)
	})
	if count[true] < 300 || count[false] < 1500 {
		t.Fatal("there were", count)
	}
}

// Two changes at once: one may mend, or hide, the other.
func TestRightFarther(t *testing.T) {
	r := rand.New(rand.NewSource(13))
	right := 0
	for range 30000 {
		d := shop()
		for range 2 + r.Intn(2) {
			list := parts(&d)
			part := list[r.Intn(len(list))]
			if some := others(part); len(some) > 0 {
				part.Set(reflect.ValueOf(copyOf(some[r.Intn(len(some))])))
			}
		}
		want := wrongOf(d) == ""
		checkRight(t, d, want)
		if want {
			right++
		}
	}
	if right < 300 {
		t.Fatal("just", right, "were right")
	}
}

// Lists that are long, some with what is right, again and again.
func TestLongLists(t *testing.T) {
	const many = 20000
	for _, x := range []func(c *api.Catalog){
		func(c *api.Catalog) { c.Tables = repeat(c.Tables[1], many) },
		func(c *api.Catalog) { c.Roles = repeat("root", many) },
		func(c *api.Catalog) { c.Members = repeat(c.Members[0], many) },
		func(c *api.Catalog) { c.Grants = repeat(c.Grants[0], many) },
		func(c *api.Catalog) { c.Tables[0].Cols = repeat(c.Tables[0].Cols[0], many) },
		func(c *api.Catalog) { c.Tables[0].Indexes = repeat(c.Tables[0].Indexes[0], many) },
		func(c *api.Catalog) { c.Tables[0].Indexes[0].Cols = repeat("b", many) },
		func(c *api.Catalog) { c.Tables[0].Checks = repeat(c.Tables[0].Checks[0], many) },
		func(c *api.Catalog) { c.Tables[0].Checks[0].Conds = repeat(c.Tables[0].Checks[0].Conds[0], many) },
		func(c *api.Catalog) { c.Tables[0].Refs = repeat(c.Tables[0].Refs[0], many) },
		func(c *api.Catalog) { c.Tables[0].Name = strings.Repeat("x", many) },
	} {
		c := shop()
		x(&c)
		if schema.Right(c) {
			t.Fatal("it is right")
		}
		b := schema.Encode(c)
		if !bytes.Equal(b, bytesOf(c)) {
			t.Fatal("its bytes are others")
		}
		if d, ok := schema.Decode(b); ok || tell(d) != tell(api.Catalog{}) {
			t.Fatal("it is decoded")
		}
		for _, x := range []change{{what: "AddTable", t: c.Tables[0]}, {what: "AddTable", t: plain("new")}, {what: "DropTable", table: "t"}, {what: "DropIndex", name: "x"}, {what: "Mark", name: "x", state: 1}} {
			do(c, x)
		}
	}
}

func repeat[T any](x T, n int) []T {
	list := make([]T, n)
	for i := range list {
		list[i] = x
	}
	return list
}

func TestFirst(t *testing.T) {
	c := schema.First()
	if tell(c) != tell(api.Catalog{Roles: []string{"root"}}) {
		t.Fatal(tell(c))
	}
	junk(reflect.ValueOf(&c).Elem())
	if d := schema.First(); tell(d) != tell(api.Catalog{Roles: []string{"root"}}) {
		t.Fatal("the first one is another when an answer was changed:", tell(d))
	}
}

func checkFind(t *testing.T, c api.Catalog, name string, at int, there bool) {
	t.Helper()
	if got, ok := schema.Find(c, name); got != at || ok != there {
		t.Fatalf("Find(%q) is %d, %v, not %d, %v", name, got, ok, at, there)
	}
}

func checkFindIndex(t *testing.T, c api.Catalog, name string, table, at int, there bool) {
	t.Helper()
	if gotTable, got, ok := schema.FindIndex(c, name); gotTable != table || got != at || ok != there {
		t.Fatalf("FindIndex(%q) is %d, %d, %v, not %d, %d, %v", name, gotTable, got, ok, table, at, there)
	}
}

func TestFind(t *testing.T) {
	for i, name := range []string{"t", "u", "w"} {
		checkFind(t, shop(), name, i, true)
	}
	for _, name := range []string{"", "x", "T", "tt", "root", "id", "t\x00", "\xff"} {
		checkFind(t, shop(), name, 0, false)
	}
	checkFindIndex(t, shop(), "x", 0, 0, true)
	checkFindIndex(t, shop(), "y", 0, 1, true)
	checkFindIndex(t, shop(), "z", 2, 0, true)
	for _, name := range []string{"", "t", "X", "xx", "k", "r", "b", "x\x00", "\xff"} {
		checkFindIndex(t, shop(), name, 0, 0, false)
	}
	for i := range 8 {
		checkFind(t, full(), fmt.Sprint("t", i), i, true)
		for k := range 4 {
			checkFindIndex(t, full(), fmt.Sprintf("x%d%d", i, k), i, k, true)
		}
	}
	checkFind(t, api.Catalog{}, "", 0, false)
	checkFindIndex(t, api.Catalog{}, "", 0, 0, false)
	// Whatever is in a catalog: the first one counts.
	c := api.Catalog{Tables: []api.Table{{Name: "a"}, {Name: "\xff", Indexes: []api.Index{{Name: ""}, {Name: "x"}}}, {Name: "\xff", Indexes: []api.Index{{Name: "x"}}}}}
	checkFind(t, c, "\xff", 1, true)
	checkFindIndex(t, c, "x", 1, 1, true)
	checkFindIndex(t, c, "", 1, 0, true)
}

// checkSame: an answer is a catalog, as new memory, and the one that was handed in is as it was.
func checkSame(t *testing.T, got, want api.Catalog) {
	t.Helper()
	if tell(got) != tell(want) {
		t.Fatalf("the answer is %.2000s, not %.2000s", tell(got), tell(want))
	}
}

func TestClone(t *testing.T) {
	list := []api.Catalog{{}, schema.First(), shop(), full()}
	near(shop(), func(d api.Catalog) { list = append(list, d) })
	for _, c := range list {
		c = roomy(c)
		was := tell(whole(c))
		d := schema.Clone(c)
		checkSame(t, d, c)
		checkNew(t, d, c)
		want := tell(d)
		junk(reflect.ValueOf(&c).Elem())
		if tell(d) != want {
			t.Fatal("the clone changed with what it is one of")
		}
		c, d = d, schema.Clone(d)
		junk(reflect.ValueOf(&d).Elem())
		if tell(c) != want || was == "" {
			t.Fatal("what it is one of changed with the clone")
		}
	}
}

func TestCloneChangesNothing(t *testing.T) {
	c := roomy(shop())
	was := tell(whole(c))
	schema.Clone(c)
	schema.Right(c)
	schema.Find(c, "w")
	schema.FindIndex(c, "z")
	schema.Encode(c)
	if tell(whole(c)) != was {
		t.Fatal("what was handed in was changed")
	}
}

// P13.2: changes.

// do: a change, done.
func do(c api.Catalog, x change) (api.Catalog, api.Errno) {
	switch x.what {
	case "AddTable":
		return schema.AddTable(c, x.t)
	case "DropTable":
		return schema.DropTable(c, x.table)
	case "AddCol":
		return schema.AddCol(c, x.table, x.col)
	case "AddIndex":
		return schema.AddIndex(c, x.table, x.x)
	case "DropIndex":
		return schema.DropIndex(c, x.name)
	case "Mark":
		return schema.Mark(c, x.name, x.state)
	case "AddCheck":
		return schema.AddCheck(c, x.table, x.k)
	}
	return schema.AddRef(c, x.table, x.r)
}

// checkChange: a change of a right catalog comes to what is told; what is answered is right and new memory, and nothing that was handed in is changed. The answer is the catalog as it is then.
func checkChange(t *testing.T, c api.Catalog, x change) (api.Catalog, api.Errno) {
	t.Helper()
	c = roomy(c)
	x.t, x.x, x.k = roomy(x.t), roomy(x.x), roomy(x.k)
	was, xWas := tell(whole(c)), tell([]any{whole(x.t), whole(x.x), whole(x.k)})
	want, e := toldOf(c, x)
	got, gotE := do(c, x)
	if gotE != e {
		t.Fatalf("%s of %.400s is %d, not %d", x.what, tell([]any{x.table, x.name, x.state, x.t, x.col, x.x, x.k, x.r}), gotE, e)
	}
	checkSame(t, got, want)
	if tell(whole(c)) != was || tell([]any{whole(x.t), whole(x.x), whole(x.k)}) != xWas {
		t.Fatal(x.what, "has changed what was handed in")
	}
	if e != api.OK {
		return c, e
	}
	checkRight(t, got, true)
	checkNew(t, got, c, x.t, x.x, x.k, x.table, x.name, x.col, x.r)
	return got, e
}

// A wanted is a change of the shop's catalog, and the error that the chapter asks for.
type wanted struct {
	e api.Errno
	x change
}

func addTable(t api.Table) change { return change{what: "AddTable", t: t} }

func dropTable(table string) change { return change{what: "DropTable", table: table} }

func addCol(table, name string, kind int, notNull bool) change {
	return change{what: "AddCol", table: table, col: api.Col{Name: name, Kind: kind, NotNull: notNull}}
}

func addIndex(table, name string, state int, cols ...string) change {
	return change{what: "AddIndex", table: table, x: api.Index{Name: name, Cols: cols, State: state}}
}

func dropIndex(name string) change { return change{what: "DropIndex", name: name} }

func mark(name string, state int) change { return change{what: "Mark", name: name, state: state} }

func addCheck(table, name string, l ...api.Cond) change {
	return change{what: "AddCheck", table: table, k: api.Check{Name: name, Conds: l}}
}

func addRef(table, name, col, to string) change {
	return change{what: "AddRef", table: table, r: api.Ref{Name: name, Col: col, To: to}}
}

// checkWanted: all of these changes of a catalog.
func checkWanted(t *testing.T, c api.Catalog, list []wanted) {
	t.Helper()
	for i, w := range list {
		if _, e := checkChange(t, c, w.x); e != w.e {
			t.Fatalf("number %d, %s, is %d, not %d", i, w.x.what, e, w.e)
		}
	}
}

func TestAddTable(t *testing.T) {
	with := func(name string, edit func(x *api.Table)) change {
		x := plain(name)
		x.Cols = append(x.Cols, api.Col{Name: "n", Kind: 3}, api.Col{Name: "f", Kind: 2})
		edit(&x)
		return addTable(x)
	}
	list := []wanted{
		{api.OK, addTable(plain("new"))},
		{api.OK, addTable(plain("x"))},
		{api.ErrName, addTable(plain(""))},
		{api.ErrName, addTable(api.Table{Name: "T"})},
		{api.ErrName, addTable(plain("a234567890123"))},
		{api.ErrThere, addTable(plain("t"))},
		{api.ErrThere, addTable(api.Table{Name: "u"})},
		{api.ErrForm, addTable(api.Table{Name: "new", Owner: "root"})},
	}
	for _, x := range []struct {
		e    api.Errno
		edit func(x *api.Table)
	}{
		{api.OK, func(x *api.Table) {}},
		{api.OK, func(x *api.Table) { x.Owner = "q" }},
		{api.ErrForm, func(x *api.Table) { x.Owner = "nobody" }},
		{api.ErrForm, func(x *api.Table) { x.Owner = "" }},
		{api.ErrForm, func(x *api.Table) { x.Cols[0].NotNull = false }},
		{api.ErrForm, func(x *api.Table) { x.Cols[0].Kind = 2 }},
		{api.ErrForm, func(x *api.Table) { x.Cols[1].Kind = 0 }},
		{api.ErrForm, func(x *api.Table) { x.Cols[1].Kind = 4 }},
		{api.ErrForm, func(x *api.Table) { x.Cols[1].Name = "N" }},
		{api.ErrForm, func(x *api.Table) { x.Cols[1].Name = "id" }},
		{api.ErrForm, func(x *api.Table) {
			for i := range 6 {
				x.Cols = append(x.Cols, api.Col{Name: fmt.Sprint("c", i), Kind: 1})
			}
		}},
		{api.OK, func(x *api.Table) { x.Indexes = []api.Index{{Name: "new", Cols: []string{"f"}, State: 3}} }},
		{api.ErrForm, func(x *api.Table) { x.Indexes = []api.Index{{Name: "x", Cols: []string{"f"}, State: 3}} }},
		{api.ErrForm, func(x *api.Table) { x.Indexes = []api.Index{{Name: "new", Cols: []string{"b"}, State: 3}} }},
		{api.ErrForm, func(x *api.Table) { x.Indexes = []api.Index{{Name: "N", Cols: []string{"f"}, State: 3}} }},
		{api.ErrForm, func(x *api.Table) {
			for i := range 5 {
				x.Indexes = append(x.Indexes, api.Index{Name: fmt.Sprint("i", i), Cols: []string{"f"}, State: 1})
			}
		}},
		{api.ErrForm, func(x *api.Table) {
			for i := range 5 {
				x.Checks = append(x.Checks, api.Check{Name: fmt.Sprint("k", i)})
			}
		}},
		{api.ErrForm, func(x *api.Table) {
			for i := range 5 {
				x.Refs = append(x.Refs, api.Ref{Name: fmt.Sprint("r", i), Col: "id", To: "u"})
			}
		}},
		{api.ErrForm, func(x *api.Table) { x.Indexes = repeat(api.Index{Name: "new", Cols: []string{"f"}, State: 1}, 2) }},
		{api.OK, func(x *api.Table) { x.Checks = []api.Check{{Name: "k", Conds: []api.Cond{is("n", 1, text("y"))}}} }},
		{api.ErrForm, func(x *api.Table) { x.Checks = []api.Check{{Name: "k", Conds: []api.Cond{is("b", 1, text("y"))}}} }},
		{api.ErrForm, func(x *api.Table) { x.Checks = []api.Check{{Name: "k", Conds: []api.Cond{is("n", 1, num(1))}}} }},
		{api.ErrForm, func(x *api.Table) {
			x.Checks = []api.Check{{Name: "k", Conds: repeat(is("n", 1, text("y")), 9)}}
		}},
		{api.ErrForm, func(x *api.Table) {
			x.Checks, x.Refs = []api.Check{{Name: "k"}}, []api.Ref{{Name: "k", Col: "id", To: "u"}}
		}},
		{api.OK, func(x *api.Table) { x.Refs = []api.Ref{{Name: "k", Col: "id", To: "u"}} }},
		{api.OK, func(x *api.Table) { x.Refs = []api.Ref{{Name: "k", Col: "id", To: "new"}} }},
		{api.ErrForm, func(x *api.Table) { x.Refs = []api.Ref{{Name: "k", Col: "id", To: "v"}} }},
		{api.ErrForm, func(x *api.Table) { x.Refs = []api.Ref{{Name: "k", Col: "f", To: "new"}} }},
		{api.ErrForm, func(x *api.Table) { x.Refs = []api.Ref{{Name: "k", Col: "b", To: "w"}} }},
		{api.ErrForm, func(x *api.Table) { x.Refs = []api.Ref{{Name: "k", Col: "id", To: "w"}} }},
	} {
		list = append(list, wanted{x.e, with("new", x.edit)}, wanted{api.ErrThere, with("w", x.edit)}, wanted{api.ErrName, with("0", x.edit)})
	}
	checkWanted(t, shop(), list)
	checkWanted(t, full(), []wanted{
		{api.ErrName, addTable(api.Table{Name: "T"})},
		{api.ErrThere, addTable(api.Table{Name: "t3"})},
		{api.ErrMany, addTable(api.Table{Name: "new"})},
		{api.ErrMany, addTable(plain("new"))},
	})
}

func TestDropTable(t *testing.T) {
	checkWanted(t, shop(), []wanted{
		{api.OK, dropTable("t")},
		{api.ErrUsed, dropTable("u")},
		{api.OK, dropTable("w")}, // it refers to itself alone
		{api.ErrNone, dropTable("x")},
		{api.ErrNone, dropTable("")},
		{api.ErrNone, dropTable("T")},
	})
	c, _ := checkChange(t, shop(), dropTable("t"))
	if len(c.Grants) != 1 || c.Grants[0].Table != "u" || len(c.Members) != 3 || len(c.Roles) != 4 {
		t.Fatal(tell(c))
	}
	checkWanted(t, c, []wanted{{api.ErrUsed, dropTable("u")}, {api.OK, dropTable("w")}})
	c, _ = checkChange(t, c, dropTable("w"))
	c, _ = checkChange(t, c, dropTable("u"))
	if len(c.Tables) != 0 || len(c.Grants) != 0 {
		t.Fatal(tell(c))
	}
}

func TestAddCol(t *testing.T) {
	checkWanted(t, shop(), []wanted{
		{api.OK, addCol("t", "e", 1, false)},
		{api.OK, addCol("u", "e", 2, false)},
		{api.OK, addCol("w", "a23456789012", 3, false)},
		{api.ErrName, addCol("t", "", 1, false)},
		{api.ErrName, addCol("none", "B", 9, true)},
		{api.ErrThere, addCol("t", "b", 1, false)},
		{api.ErrThere, addCol("t", "id", 9, true)},
		{api.ErrNone, addCol("x", "id", 1, false)},
		{api.ErrNone, addCol("", "e", 9, true)},
		{api.ErrForm, addCol("t", "e", 1, true)},
		{api.ErrForm, addCol("t", "e", 0, false)},
		{api.ErrForm, addCol("t", "e", 4, false)},
		{api.ErrForm, addCol("t", "e", -1, false)},
		{api.ErrForm, addCol("t", "e", math.MaxInt, true)},
	})
	checkWanted(t, full(), []wanted{
		{api.ErrName, addCol("t1", "_", 1, false)},
		{api.ErrThere, addCol("t1", "c7", 1, false)},
		{api.ErrMany, addCol("t1", "c8", 1, false)},
		{api.ErrMany, addCol("t7", "c8", 0, true)},
		{api.ErrNone, addCol("t8", "c8", 0, true)},
	})
}

func TestAddIndex(t *testing.T) {
	checkWanted(t, shop(), []wanted{
		{api.OK, addIndex("t", "i", 1, "id")},
		{api.OK, addIndex("u", "t", 2, "n", "id")},
		{api.OK, addIndex("t", "id", 3, "d", "c", "b", "id")},
		{api.ErrName, addIndex("t", "I", 1, "id")},
		{api.ErrName, addIndex("none", "", 9)},
		{api.ErrThere, addIndex("t", "x", 1, "id")},
		{api.ErrThere, addIndex("u", "x", 1, "id")},
		{api.ErrThere, addIndex("none", "z", 9, "none")},
		{api.ErrNone, addIndex("none", "i", 1, "id")},
		{api.ErrNone, addIndex("none", "i", 9)},
		{api.ErrNone, addIndex("t", "i", 1, "name")},
		{api.ErrNone, addIndex("t", "i", 9, "id", "id", "b", "c", "d", "")},
		{api.ErrForm, addIndex("t", "i", 1)},
		{api.ErrForm, addIndex("t", "i", 1, "b", "b")},
		{api.ErrForm, addIndex("t", "i", 1, "b", "c", "d", "id", "b")},
		{api.ErrForm, addIndex("t", "i", 0, "b")},
		{api.ErrForm, addIndex("t", "i", 4, "b")},
		{api.ErrForm, addIndex("t", "i", -1, "b")},
	})
	checkWanted(t, full(), []wanted{
		{api.ErrName, addIndex("t1", "1", 1, "c1")},
		{api.ErrThere, addIndex("t1", "x73", 1, "c1")},
		{api.ErrNone, addIndex("t1", "i", 1, "c8")},
		{api.ErrNone, addIndex("t8", "i", 1, "c1")},
		{api.ErrMany, addIndex("t1", "i", 1, "c1")},
		{api.ErrMany, addIndex("t1", "i", 0)},
	})
	wide := shop()
	wide.Tables[0].Cols = append(wide.Tables[0].Cols, api.Col{Name: "e", Kind: 1})
	checkWanted(t, wide, []wanted{{api.OK, addIndex("t", "i", 1, "b", "c", "d", "e")}, {api.ErrForm, addIndex("t", "i", 1, "b", "c", "d", "e", "id")}})
}

func TestDropIndexAndMark(t *testing.T) {
	var list []wanted
	for _, name := range []string{"x", "y", "z"} {
		list = append(list, wanted{api.OK, dropIndex(name)})
		for state := -2; state <= 6; state++ {
			e := api.ErrForm
			if state >= 1 && state <= 3 {
				e = api.OK
			}
			list = append(list, wanted{e, mark(name, state)})
		}
		list = append(list, wanted{api.ErrForm, mark(name, math.MinInt)}, wanted{api.ErrForm, mark(name, 1<<32+1)})
	}
	for _, name := range []string{"", "t", "k", "X", "xx", "\xff"} {
		list = append(list, wanted{api.ErrNone, dropIndex(name)}, wanted{api.ErrNone, mark(name, 1)}, wanted{api.ErrNone, mark(name, 0)})
	}
	checkWanted(t, shop(), list)
	c := full()
	for i := range 8 {
		for _, k := range []int{2, 0, 3, 1} {
			name := fmt.Sprintf("x%d%d", i, k)
			c, _ = checkChange(t, c, mark(name, 2))
			c, _ = checkChange(t, c, dropIndex(name))
			checkWanted(t, c, []wanted{{api.ErrNone, dropIndex(name)}, {api.ErrNone, mark(name, 2)}})
		}
	}
}

func TestAddCheck(t *testing.T) {
	long := repeat(is("b", api.CNull, api.Value{}), 9)
	checkWanted(t, shop(), []wanted{
		{api.OK, addCheck("t", "l")},
		{api.OK, addCheck("u", "k", is("id", 3, num(4)))},
		{api.OK, addCheck("t", "x", long[:8]...)},
		{api.ErrName, addCheck("t", "L")},
		{api.ErrName, addCheck("none", "", long...)},
		{api.ErrThere, addCheck("t", "k")},
		{api.ErrThere, addCheck("t", "none", long...)},
		{api.ErrThere, addCheck("t", "r")},
		{api.ErrThere, addCheck("w", "self")},
		{api.ErrNone, addCheck("x", "l")},
		{api.ErrNone, addCheck("x", "k", long...)},
		{api.ErrMany, addCheck("t", "l", long...)},
		{api.ErrNone, addCheck("t", "l", is("e", 9, num(4)))},
		{api.ErrForm, addCheck("t", "l", is("b", 7, text("")))},
		{api.ErrForm, addCheck("t", "l", is("b", 5, text("")))},
		{api.ErrForm, addCheck("t", "l", is("b", 1, api.Value{}))},
		{api.ErrType, addCheck("t", "l", is("b", 1, num(4)))},
		{api.ErrType, addCheck("t", "l", is("id", 1, num(4)), is("b", 1, num(4)), is("e", 1, num(4)))},
	})
	checkWanted(t, full(), []wanted{
		{api.ErrName, addCheck("t1", "1")},
		{api.ErrThere, addCheck("t1", "k3")},
		{api.ErrThere, addCheck("t1", "r3")},
		{api.ErrNone, addCheck("t8", "l")},
		{api.ErrMany, addCheck("t1", "l")},
		{api.ErrMany, addCheck("t1", "l", is("none", 9, num(4)))},
	})
}

func TestAddRef(t *testing.T) {
	checkWanted(t, shop(), []wanted{
		{api.OK, addRef("t", "s", "id", "u")},
		{api.OK, addRef("t", "s", "id", "t")},
		{api.OK, addRef("u", "k", "n", "w")},
		{api.ErrName, addRef("t", "S", "id", "u")},
		{api.ErrName, addRef("none", "", "none", "none")},
		{api.ErrThere, addRef("t", "r", "id", "u")},
		{api.ErrThere, addRef("t", "k", "none", "none")},
		{api.ErrThere, addRef("w", "self", "name", "t")},
		{api.ErrNone, addRef("x", "s", "id", "u")},
		{api.ErrNone, addRef("t", "s", "e", "u")},
		{api.ErrNone, addRef("t", "s", "id", "x")},
		{api.ErrNone, addRef("t", "s", "b", "")},
		{api.ErrNone, addRef("t", "s", "", "w")},
		{api.ErrType, addRef("t", "s", "b", "u")},
		{api.ErrType, addRef("t", "s", "c", "u")},
		{api.ErrType, addRef("t", "s", "d", "w")},
		{api.ErrType, addRef("w", "s", "name", "t")},
	})
	checkWanted(t, full(), []wanted{
		{api.ErrName, addRef("t1", "1", "c1", "t1")},
		{api.ErrThere, addRef("t1", "r0", "c1", "t1")},
		{api.ErrThere, addRef("t1", "k0", "c1", "t1")},
		{api.ErrNone, addRef("t1", "s", "c8", "t1")},
		{api.ErrNone, addRef("t1", "s", "c1", "t8")},
		{api.ErrMany, addRef("t1", "s", "c1", "t1")},
	})
	c := full()
	c.Tables[1].Refs, c.Tables[1].Cols[7].Kind, c.Tables[1].Checks = c.Tables[1].Refs[:3], 3, nil
	checkWanted(t, c, []wanted{{api.OK, addRef("t1", "s", "c1", "t1")}, {api.ErrType, addRef("t1", "s", "c7", "t1")}})
	c.Tables[1].Refs = append(c.Tables[1].Refs, api.Ref{Name: "s", Col: "c1", To: "t1"})
	checkWanted(t, c, []wanted{{api.ErrMany, addRef("t1", "v", "c7", "t1")}})
}

// The last ones that there is room for, of each kind.
func TestRoom(t *testing.T) {
	c := full()
	x := &c.Tables[1]
	x.Cols, x.Indexes, x.Checks, x.Refs = x.Cols[:7], x.Indexes[:2], nil, x.Refs[:2]
	c.Tables = append(c.Tables[:2], c.Tables[2:7]...)
	for i := range c.Tables {
		c.Tables[i].Refs = nil
	}
	c.Grants = nil
	for _, list := range [][]change{
		{addTable(plain("t7")), addTable(plain("t8"))},
		{addCol("t1", "c7", 2, false), addCol("t1", "c8", 2, false)},
		{addIndex("t1", "i", 1, "c1"), addIndex("t1", "j", 2, "c1"), addIndex("t1", "k", 3, "c1")},
		{addCheck("t1", "a"), addCheck("t1", "b"), addCheck("t1", "c"), addCheck("t1", "d"), addCheck("t1", "e")},
		{addRef("t1", "f", "c1", "t2"), addRef("t1", "g", "c1", "t2"), addRef("t1", "h", "c1", "t2"), addRef("t1", "i", "c1", "t2"), addRef("t1", "j", "c1", "t2")},
	} {
		for i, x := range list {
			var e api.Errno
			if c, e = checkChange(t, c, x); (e == api.OK) != (i < len(list)-1) || e != api.OK && e != api.ErrMany {
				t.Fatal(x.what, i, e)
			}
		}
	}
}

// The words' own example.
func TestExample(t *testing.T) {
	a := api.Table{Name: "t", Owner: "root", Cols: []api.Col{{Name: "a", Kind: api.VInt, NotNull: true}}}
	c, e := schema.AddTable(schema.First(), a)
	if e != api.OK || !schema.Right(c) || len(c.Tables) != 1 {
		t.Fatal(e, tell(c))
	}
	if _, e := schema.AddTable(c, a); e != api.ErrThere {
		t.Fatal(e)
	}
}

// A picker picks out of lists, by chance or by what bytes tell.
type picker func(n int) int

func pick[T any](p picker, list ...T) T { return list[p(len(list))] }

func anyName(p picker) string {
	return pick(p, "t", "u", "w", "a", "b", "c", "d", "id", "x", "y", "k", "l", "r", "", "T", "a_234567890z", "a_234567890zz")
}

func anyCol(p picker) api.Col {
	return api.Col{Name: anyName(p), Kind: pick(p, 1, 2, 3, 1, 3, 0, 4), NotNull: pick(p, false, true, false)}
}

func anyCond(p picker) api.Cond {
	return is(anyName(p), pick(p, 1, 2, 3, 4, 5, 6, 0, 7), pick(p, api.Value{}, num(5), api.Value{Kind: 2, N: 1}, text("x"), text(strings.Repeat("x", 17)), api.Value{N: 1}))
}

func some[T any](p picker, most int, one func(p picker) T) (list []T) {
	for range p(most + 1) {
		list = append(list, one(p))
	}
	return list
}

func anyIndex(p picker) api.Index {
	return api.Index{Name: anyName(p), Cols: some(p, 5, anyName), Unique: p(2) == 1, State: pick(p, 1, 2, 3, 0, 4)}
}

func anyCheck(p picker) api.Check {
	return api.Check{Name: anyName(p), Conds: some(p, pick(p, 0, 1, 2, 10), anyCond)}
}

func anyRef(p picker) api.Ref {
	return api.Ref{Name: anyName(p), Col: anyName(p), To: anyName(p)}
}

func anyRole(p picker) string { return pick(p, "root", "root", "p", "q", "s") }

func anyTable(p picker) api.Table {
	t := api.Table{Name: anyName(p), Owner: anyRole(p), Cols: some(p, pick(p, 2, 9), anyCol)}
	if p(8) > 0 {
		t.Cols = append([]api.Col{{Name: "id", Kind: pick(p, 1, 3), NotNull: true}}, t.Cols...)
	}
	if p(4) == 0 {
		t.Indexes, t.Checks, t.Refs = some(p, 2, anyIndex), some(p, 2, anyCheck), some(p, 2, anyRef)
	}
	return t
}

func anyGrant(p picker) api.Grant {
	return api.Grant{Table: anyName(p), From: anyRole(p), To: anyRole(p), Rights: pick(p, 1, 31, 16, 0, 32)}
}

func anyMember(p picker) [2]string { return [2]string{anyRole(p), anyRole(p)} }

func anyChange(p picker) change {
	x := change{table: anyName(p), name: anyName(p)}
	switch x.what = pick(p, "AddTable", "DropTable", "AddCol", "AddIndex", "DropIndex", "Mark", "AddCheck", "AddRef", "AddCol", "AddIndex", "AddRef", "AddTable", "AddTable", "AddTable", "AddIndex"); x.what {
	case "AddTable":
		x.t = anyTable(p)
	case "AddCol":
		x.col = anyCol(p)
	case "AddIndex":
		x.x = anyIndex(p)
	case "Mark":
		x.state = pick(p, 1, 2, 3, 0, 4)
	case "AddCheck":
		x.k = anyCheck(p)
	case "AddRef":
		x.r = anyRef(p)
	}
	return x
}

// likely: a text of a list, mostly.
func likely(p picker, s string, list []string) string {
	if len(list) == 0 || p(5) == 0 {
		return s
	}
	return pick(p, list...)
}

// fitted: a change whose names are a catalog's, mostly.
func fitted(p picker, c api.Catalog, x change) change {
	if len(c.Tables) == 0 {
		return x
	}
	t := pick(p, c.Tables...)
	x.table = likely(p, x.table, []string{t.Name})
	x.name = likely(p, x.name, indexNames(c))
	for i, name := range x.x.Cols {
		x.x.Cols[i] = likely(p, name, colNames(t))
	}
	for i, k := range x.k.Conds {
		x.k.Conds[i].Col = likely(p, k.Col, colNames(t))
	}
	x.r.Col, x.r.To = likely(p, x.r.Col, colNames(t)), likely(p, x.r.To, tableNames(c))
	return x
}

// walk: changes, one after the other, and a right catalog's grants and members in between; how many changes came to which error.
func walk(t *testing.T, p picker, steps int, count map[string]int) {
	t.Helper()
	c := schema.First()
	c.Roles = append(c.Roles, "p", "q")
	for range steps {
		if p(6) == 0 {
			d := copyOf(c)
			d.Grants, d.Members = append(d.Grants, anyGrant(p)), append(d.Members, anyMember(p))
			if wrongOf(d) == "" {
				c = d
			}
		}
		x := fitted(p, c, anyChange(p))
		var e api.Errno
		c, e = checkChange(t, c, x)
		count[fmt.Sprint(x.what, " ", int(e))]++
	}
	checkBytes(t, c)
}

func TestWalks(t *testing.T) {
	count := map[string]int{}
	for seed := range 60 {
		r := rand.New(rand.NewSource(int64(seed)))
		walk(t, r.Intn, 400, count)
	}
	for _, e := range []string{
		"AddTable 0", "AddTable 11", "AddTable 12", "AddTable 15", "AddTable 10",
		"DropTable 0", "DropTable 13", "DropTable 22",
		"AddCol 0", "AddCol 11", "AddCol 12", "AddCol 13", "AddCol 15", "AddCol 10",
		"AddIndex 0", "AddIndex 11", "AddIndex 12", "AddIndex 13", "AddIndex 10",
		"DropIndex 0", "DropIndex 13", "Mark 0", "Mark 13", "Mark 10",
		"AddCheck 0", "AddCheck 11", "AddCheck 12", "AddCheck 13", "AddCheck 15", "AddCheck 10", "AddCheck 14",
		"AddRef 0", "AddRef 11", "AddRef 12", "AddRef 13", "AddRef 14",
	} {
		if count[e] == 0 {
			t.Error("there was no", e, "among", count)
		}
	}
}

// P13.3: a catalog as bytes.

// checkBytes: a catalog's bytes are those that are told, and they are decoded just if it is right.
func checkBytes(t *testing.T, c api.Catalog) {
	t.Helper()
	c = roomy(c)
	was := tell(whole(c))
	b := schema.Encode(c)
	if !bytes.Equal(b, bytesOf(c)) {
		t.Fatalf("Encode of %.1000s is %.1000q", tell(c), b)
	}
	if tell(whole(c)) != was {
		t.Fatal("Encode has changed what was handed in")
	}
	checkDecode(t, b)
	if d, ok := schema.Decode(b); ok && tell(d) != tell(c) || ok != (wrongOf(c) == "") {
		t.Fatalf("Decode of the bytes of %.1000s is %.1000s, %v", tell(c), tell(d), ok)
	}
}

// checkDecode: bytes are decoded as told.
func checkDecode(t *testing.T, b []byte) {
	t.Helper()
	// Its length's memory alone is a slice's own, what lies behind it someone else's.
	memory := append(append([]byte{}, b...), "behind"...)
	b = memory[:len(b)]
	was := string(memory)
	got, ok := schema.Decode(b)
	if string(memory) != was {
		t.Fatal("Decode has changed what was handed in")
	}
	want, there := catalogOf(b)
	if ok != there || tell(got) != tell(want) {
		t.Fatalf("Decode(%.1000q) is %.1000s, %v, not %.1000s, %v", b, tell(got), ok, tell(want), there)
	}
	if ok {
		checkNew(t, got, b)
	}
}

func TestEncode(t *testing.T) {
	if b := schema.Encode(schema.First()); string(b) != "\x00\x02\x08root\x00\x00" {
		t.Fatalf("%q", b)
	}
	c := api.Catalog{
		Tables: []api.Table{{
			Name: "t", Owner: "root",
			Cols:    []api.Col{{Name: "a", Kind: 1, NotNull: true}, {Name: "bc", Kind: 3}},
			Indexes: []api.Index{{Name: "x", Cols: []string{"bc", "a"}, Unique: true, State: 2}, {Name: "y", Cols: []string{"a"}, State: 3}},
			Checks:  []api.Check{{Name: "k", Conds: []api.Cond{is("a", 4, num(-65)), is("bc", 1, text("hi")), is("a", 6, api.Value{})}}},
			Refs:    []api.Ref{{Name: "r", Col: "a", To: "t"}},
		}},
		Roles:   []string{"root", "p"},
		Members: [][2]string{{"p", "root"}},
		Grants:  []api.Grant{{Table: "t", From: "root", To: "p", Rights: 17}},
	}
	want := "\x02" + "\x02t\x08root" +
		"\x04" + "\x02a\x02\x02" + "\x04bc\x06\x00" +
		"\x04" + "\x02x\x04\x04bc\x02a\x02\x04" + "\x02y\x02\x02a\x00\x06" +
		"\x02" + "\x02k\x06" + "\x02a\x08\x08\x02\x02\x81\x01" + "\x04bc\x02\x0a\x02\x06\x04hi" + "\x02a\x0c\x04\x02\x00" +
		"\x02" + "\x02r\x02a\x02t" +
		"\x04\x08root\x02p" +
		"\x02" + "\x02p\x08root" +
		"\x02" + "\x02t\x08root\x02p\x22"
	if b := schema.Encode(c); string(b) != want {
		t.Fatalf("%q, not %q", b, want)
	}
	checkBytes(t, c)
}

func TestBytes(t *testing.T) {
	for _, c := range []api.Catalog{{}, schema.First(), shop(), full()} {
		checkBytes(t, c)
	}
	near(shop(), func(d api.Catalog) { checkBytes(t, d) })
}

func TestDecodeOthers(t *testing.T) {
	checkDecode(t, nil)
	for i := range 1 << 16 {
		checkDecode(t, []byte{byte(i >> 8), byte(i)})
	}
	first := schema.Encode(schema.First())
	b := schema.Encode(shop())
	for n := range b {
		checkDecode(t, b[:n])
	}
	for c := range 256 {
		checkDecode(t, append(bytes.Clone(b), byte(c)))
		checkDecode(t, append(bytes.Clone(first), byte(c)))
		checkDecode(t, append([]byte{byte(c)}, first...))
		for i := range b {
			other := bytes.Clone(b)
			other[i] = byte(c)
			checkDecode(t, other)
		}
	}
	for i := range b {
		checkDecode(t, append(bytes.Clone(b[:i]), b[i+1:]...))
		checkDecode(t, append(append(bytes.Clone(b[:i]), 0), b[i:]...))
		// The same number with a digit of 0 more.
		longer := append(bytes.Clone(b[:i]), b[i]|0x80, 0)
		checkDecode(t, append(longer, b[i+1:]...))
	}
}

// refused: bytes that aren't decoded.
func refused(t *testing.T, b string) {
	t.Helper()
	checkDecode(t, []byte(b))
	if _, ok := schema.Decode([]byte(b)); ok {
		t.Fatalf("%q is decoded", b)
	}
}

func TestDecodeWrong(t *testing.T) {
	const head, tail = "\x02\x02t\x08root", "\x02\x08root\x00\x00"
	const cols = "\x02\x02a\x02\x02"
	const key = cols + "\x00"
	whole := head + key + "\x00\x00" + tail
	if _, ok := schema.Decode([]byte(whole)); !ok {
		t.Fatal("the right one is refused")
	}
	check := func(with string) string {
		return head + key + "\x02\x02k\x02\x02a\x02" + with + "\x00" + tail
	}
	if _, ok := schema.Decode([]byte(check("\x06\x02\x02\x04"))); !ok {
		t.Fatal("the right check is refused")
	}
	for _, b := range []string{
		head + "\x02\x02a\x02\x04\x00" + "\x00\x00" + tail,                 // NotNull is 2
		head + "\x02\x02a\x02\x01\x00" + "\x00\x00" + tail,                 // NotNull is -1
		head + cols + "\x02\x02x\x02\x02a\x04\x02" + "\x00\x00" + tail,     // Unique is 2
		head + cols + "\x02\x02x\x02\x02a\x01\x02" + "\x00\x00" + tail,     // Unique is -1
		head + cols + "\x02\x02x\x02\x02a\x80\x00\x02" + "\x00\x00" + tail, // Unique is 0 with a digit more
		check("\x00"),                                       // no bytes
		check("\x02\x00"),                                   // a row of no values
		check("\x0a\x04\x02\x04\x02\x04"),                   // a row of two values
		check("\x06\x02\x02\x04\x00"),                       // bytes behind the row's text
		check("\x08\x02\x02\x04\x00"),                       // bytes behind the row
		check("\x04\x02\x02"),                               // a row that is cut off
		check("\x06\x02\x04\x02"),                           // a truth for a number
		check("\x06\x02\x04\x04"),                           // a truth of 2
		check("\x02\x02"),                                   // a row of one value that isn't there
		check("\x28\x02\x06\x22" + strings.Repeat("x", 17)), // a text of 17 bytes
		"\x01" + whole[1:],                                  // -1 tables
		"\x04" + whole[1:],                                  // a table too few
		"\x00" + whole[1:],
		"\xfe\xff\xff\xff\xff\xff\xff\xff\xff\x01" + whole[1:], // as many as there can be
		"\xff\xff\xff\xff\xff\xff\xff\xff\xff\x01" + whole[1:],
		whole + "\x00",
		whole[:len(whole)-1],
		whole[:len(whole)-1] + "\x01",
		whole[:len(whole)-1] + "\x02",
	} {
		refused(t, b)
	}
}

// P13.4: what is answered is new memory.

// Texts' bytes are changed behind an answer's back: what was answered is its own.
func TestTextsAreNew(t *testing.T) {
	memory := []byte("table t root column c index i check k conditions of a value v reference r")
	piece := func(from, to int) string { return unsafe.String(&memory[from], to-from) }
	x := api.Table{
		Name: piece(0, 5), Owner: piece(8, 12), Cols: []api.Col{{Name: piece(13, 19), Kind: 3, NotNull: true}},
		Indexes: []api.Index{{Name: piece(22, 27), Cols: []string{piece(13, 19)}, State: 1}},
		Checks:  []api.Check{{Name: piece(30, 35), Conds: []api.Cond{is(piece(13, 19), 1, text(piece(54, 59)))}}},
		Refs:    []api.Ref{{Name: piece(62, 71), Col: piece(13, 19), To: piece(0, 5)}},
	}
	c, e := schema.AddTable(schema.First(), x)
	if e != api.OK {
		t.Fatal(e)
	}
	for _, more := range []change{
		{what: "AddCol", table: piece(0, 5), col: api.Col{Name: piece(20, 21), Kind: 3}},
		{what: "AddIndex", table: piece(0, 5), x: api.Index{Name: piece(28, 29), Cols: []string{piece(20, 21)}, State: 2}},
		{what: "AddCheck", table: piece(0, 5), k: api.Check{Name: piece(36, 37), Conds: []api.Cond{is(piece(20, 21), 2, text(piece(60, 61)))}}},
		{what: "AddRef", table: piece(0, 5), r: api.Ref{Name: piece(72, 73), Col: piece(20, 21), To: piece(0, 5)}},
	} {
		if c, e = do(c, more); e != api.OK {
			t.Fatal(more.what, e)
		}
	}
	d := schema.Clone(api.Catalog{Tables: []api.Table{x}, Roles: []string{piece(8, 12)}, Members: [][2]string{{piece(0, 5), piece(8, 12)}}, Grants: []api.Grant{{Table: piece(0, 5), From: piece(8, 12), To: piece(22, 27)}}})
	was := tell([]api.Catalog{c, d})
	clear(memory)
	if now := tell([]api.Catalog{c, d}); now != was {
		t.Fatalf("what was answered is %q now", now)
	}
}

// Two answers, and what they came of, have nothing to do with one another.
func TestAnswersAreNew(t *testing.T) {
	for _, x := range []change{
		addTable(plain("new")), dropTable("t"), addCol("t", "e", 1, false), addIndex("t", "i", 1, "b", "c"), dropIndex("x"), mark("x", 1),
		addCheck("t", "l", is("b", 1, text("v"))), addRef("t", "s", "id", "u"),
	} {
		c := shop()
		first, _ := do(c, x)
		second, _ := do(c, x)
		want := tell(first)
		wide := whole(first)
		junk(reflect.ValueOf(&second).Elem())
		if tell(first) != want || tell(c) != tell(shop()) {
			t.Fatal(x.what, ": something changed with an answer")
		}
		junk(reflect.ValueOf(&c).Elem())
		if tell(first) != want || tell(whole(first)) != tell(wide) {
			t.Fatal(x.what, ": an answer changed with what was handed in")
		}
	}
	b := schema.Encode(shop())
	d, _ := schema.Decode(b)
	other := schema.Encode(shop())
	clear(b[:cap(b)])
	if tell(d) != tell(shop()) || !bytes.Equal(other, bytesOf(shop())) {
		t.Fatal("an answer changed with bytes")
	}
}

// P1: all calls end, and none panics, at any arguments.

// checkCalls: all calls with a catalog, right or not.
func checkCalls(t *testing.T, c api.Catalog, list ...change) {
	t.Helper()
	checkRight(t, c, wrongOf(c) == "")
	checkBytes(t, c)
	checkSame(t, schema.Clone(c), c)
	for _, x := range list {
		if wrongOf(c) == "" {
			checkChange(t, c, x)
			continue
		}
		was := tell(c)
		d, e := do(c, x)
		if e != api.OK && tell(d) != tell(api.Catalog{}) {
			t.Fatalf("with an error %s answers %.1000s", x.what, tell(d))
		}
		if tell(c) != was {
			t.Fatal(x.what, "has changed what was handed in")
		}
	}
}

// Of catalogs that aren't right nothing is told of changes but that they end.
func TestChangesOfWrongCatalogs(t *testing.T) {
	list := []change{
		addTable(plain("new")), addTable(api.Table{}), dropTable("t"), dropTable("u"), dropTable(""), addCol("t", "e", 1, false), addCol("", "e", 1, false),
		addIndex("t", "i", 1, "b", "c"), addIndex("", "i", 1, ""), dropIndex("x"), dropIndex(""), mark("x", 1), mark("", 1),
		addCheck("t", "l", is("b", 1, text("v"))), addCheck("", "l", is("", 5, api.Value{})), addRef("t", "s", "id", "u"), addRef("", "s", "", ""),
	}
	near(shop(), func(d api.Catalog) {
		for _, x := range list {
			if wrongOf(d) != "" {
				do(d, x)
			}
		}
	})
	for _, c := range []api.Catalog{
		{}, {Tables: make([]api.Table, 3)}, {Tables: make([]api.Table, 9)}, {Roles: make([]string, 3)}, {Members: make([][2]string, 2)}, {Grants: make([]api.Grant, 2)},
		{Tables: []api.Table{{Indexes: make([]api.Index, 6), Checks: make([]api.Check, 6), Refs: make([]api.Ref, 6)}}},
		{Roles: []string{"root"}, Tables: []api.Table{{Cols: make([]api.Col, 9)}}},
	} {
		checkCalls(t, c, list...)
	}
}

// picked: what bytes tell; noughts behind them.
func picked(b []byte) picker {
	return func(n int) int {
		if len(b) == 0 {
			return 0
		}
		at := int(b[0]) % n
		b = b[1:]
		return at
	}
}

// FuzzChanges: bytes tell a catalog and changes of it.
func FuzzChanges(f *testing.F) {
	f.Add([]byte{})
	f.Add([]byte("any bytes tell tables, columns, indexes and rules"))
	for seed := range 8 {
		b := make([]byte, 400)
		rand.New(rand.NewSource(int64(seed))).Read(b)
		f.Add(b)
	}
	f.Fuzz(func(t *testing.T, b []byte) {
		p := picked(b)
		c := api.Catalog{Tables: some(p, 4, anyTable), Roles: append([]string{"root"}, some(p, 3, anyRole)...), Members: some(p, 2, anyMember), Grants: some(p, 2, anyGrant)}
		checkCalls(t, c, some(p, 6, anyChange)...)
		walk(t, p, min(len(b)/8, 60), map[string]int{})
	})
}

// FuzzDecode: any bytes.
func FuzzDecode(f *testing.F) {
	for _, c := range []api.Catalog{{}, schema.First(), shop()} {
		f.Add(schema.Encode(c))
	}
	f.Fuzz(func(t *testing.T, b []byte) {
		checkDecode(t, b)
		if c, ok := schema.Decode(b); ok {
			checkCalls(t, c, addTable(plain("new")), dropTable("t"), dropIndex("x"))
		}
		checkName(t, string(b), isName(string(b)))
		checkFind(t, shop(), "no "+string(b), 0, false)
	})
}

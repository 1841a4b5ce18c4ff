package schema

import (
	"interlock/api"
	"interlock/bits"
	"interlock/value"
)

// Encode: a catalog as bytes.
func Encode(c api.Catalog) []byte {
	var w writer
	w.catalog(c)
	return w.bytes
}

// Decode: the catalog of bytes.
func Decode(b []byte) (api.Catalog, bool) {
	var c api.Catalog
	e := attempt(func() {
		r := reader{bits.NewReader(b)}
		c = r.catalog()
		need(r.Done(), api.ErrCorrupt)
		askCatalog(c)
	})
	if e != api.OK {
		return api.Catalog{}, false
	}
	return c, true
}

// writer writes a catalog's parts as bytes, one behind the other.
type writer struct{ bytes []byte }

// number: writes a number.
func (w *writer) number(n int) { w.bytes = append(w.bytes, bits.Int(n)...) }

// truth: writes 1 for true, else 0.
func (w *writer) truth(is bool) {
	if is {
		w.number(1)
	} else {
		w.number(0)
	}
}

// texts: writes texts, but not how many.
func (w *writer) texts(all ...string) {
	for _, s := range all {
		w.bytes = append(w.bytes, bits.Text(s)...)
	}
}

// textList: writes how many texts, then each.
func (w *writer) textList(list []string) { w.bytes = append(w.bytes, bits.Texts(list)...) }

// write: writes how many items a list has, then each by a writer's method.
func write[T any](w *writer, list []T, one func(T)) {
	w.number(len(list))
	for _, x := range list {
		one(x)
	}
}

// catalog: writes a catalog.
func (w *writer) catalog(c api.Catalog) {
	write(w, c.Tables, w.table)
	w.textList(c.Roles)
	write(w, c.Members, w.member)
	write(w, c.Grants, w.grant)
}

// table: writes a table.
func (w *writer) table(t api.Table) {
	w.texts(t.Name, t.Owner)
	write(w, t.Cols, w.col)
	write(w, t.Indexes, w.index)
	write(w, t.Checks, w.check)
	write(w, t.Refs, w.ref)
}

// col: writes a column.
func (w *writer) col(c api.Col) {
	w.texts(c.Name)
	w.number(c.Kind)
	w.truth(c.NotNull)
}

// index: writes an index.
func (w *writer) index(x api.Index) {
	w.texts(x.Name)
	w.textList(x.Cols)
	w.truth(x.Unique)
	w.number(x.State)
}

// check: writes a check.
func (w *writer) check(k api.Check) {
	w.texts(k.Name)
	write(w, k.Conds, w.cond)
}

// cond: writes a condition.
func (w *writer) cond(c api.Cond) {
	w.texts(c.Col)
	w.number(c.Op)
	// A value that isn't right has no bytes. Its text is empty then, which Decode refuses.
	b, _ := value.Encode(api.Row{c.With})
	w.texts(string(b))
}

// ref: writes a reference.
func (w *writer) ref(r api.Ref) { w.texts(r.Name, r.Col, r.To) }

// member: writes two roles.
func (w *writer) member(m [2]string) { w.texts(m[:]...) }

// grant: writes a grant.
func (w *writer) grant(g api.Grant) {
	w.texts(g.Table, g.From, g.To)
	w.number(g.Rights)
}

// reader reads what a writer has written; it may read a catalog that isn't right.
type reader struct{ *bits.Reader }

// truth: reads 0 or 1.
func (r reader) truth() bool { return r.Count(1) == 1 }

// read: reads how many items a list has, then each by a reader's method. No right catalog has more than most of them, so no more are read.
func read[T any](r reader, most int, one func() T) []T {
	var list []T
	for range r.Count(most) {
		list = append(list, one())
	}
	return list
}

// catalog: reads a catalog.
func (r reader) catalog() api.Catalog {
	return api.Catalog{
		Tables:  read(r, api.MaxTables, r.table),
		Roles:   read(r, api.MaxRoles, r.Text),
		Members: read(r, maxMembers, r.member),
		Grants:  read(r, maxMembers*api.MaxTables, r.grant),
	}
}

// table: reads a table.
func (r reader) table() api.Table {
	return api.Table{
		Name:    r.Text(),
		Owner:   r.Text(),
		Cols:    read(r, api.MaxCols, r.col),
		Indexes: read(r, api.MaxIndexes, r.index),
		Checks:  read(r, api.MaxRules, r.check),
		Refs:    read(r, api.MaxRules, r.ref),
	}
}

// col: reads a column.
func (r reader) col() api.Col {
	return api.Col{Name: r.Text(), Kind: r.Int(), NotNull: r.truth()}
}

// index: reads an index.
func (r reader) index() api.Index {
	return api.Index{Name: r.Text(), Cols: read(r, maxIndexCols, r.Text), Unique: r.truth(), State: r.Int()}
}

// check: reads a check.
func (r reader) check() api.Check {
	return api.Check{Name: r.Text(), Conds: read(r, api.MaxConds, r.cond)}
}

// cond: reads a condition.
func (r reader) cond() api.Cond {
	return api.Cond{Col: r.Text(), Op: r.Int(), With: r.value()}
}

// value: reads the value of a row of one, which stands as a text.
func (r reader) value() api.Value {
	row, ok := value.Decode([]byte(r.Text()))
	need(ok && len(row) == 1, api.ErrCorrupt)
	return row[0]
}

// ref: reads a reference.
func (r reader) ref() api.Ref {
	return api.Ref{Name: r.Text(), Col: r.Text(), To: r.Text()}
}

// member: reads two roles.
func (r reader) member() [2]string { return [2]string{r.Text(), r.Text()} }

// grant: reads a grant.
func (r reader) grant() api.Grant {
	return api.Grant{Table: r.Text(), From: r.Text(), To: r.Text(), Rights: r.Int()}
}

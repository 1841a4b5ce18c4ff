package schema

import (
	"slices"

	"interlock/api"
	"interlock/cond"
)

// changed: a catalog with a change, and OK; or nothing, and the error that the change ends with, or ErrForm, if the catalog isn't right with it.
func changed(c api.Catalog, change func(d *api.Catalog)) (api.Catalog, api.Errno) {
	d := Clone(c)
	e := attempt(func() {
		change(&d)
		askCatalog(d)
	})
	if e != api.OK {
		return api.Catalog{}, e
	}
	return d, api.OK
}

// needName: what is added must have a name.
func needName(s string) { need(Name(s), api.ErrName) }

// needTable: the table that is called so must be there.
func needTable(c *api.Catalog, name string) *api.Table {
	at, ok := Find(*c, name)
	need(ok, api.ErrNone)
	return &c.Tables[at]
}

// needCol: the column that is called so must be there.
func needCol(t *api.Table, name string) api.Col {
	at, ok := cond.Place(t.Cols, name)
	need(ok, api.ErrNone)
	return t.Cols[at]
}

// needIndex: the index that is called so must be there: its table, and its place there.
func needIndex(c *api.Catalog, name string) (*api.Table, int) {
	table, at, ok := FindIndex(*c, name)
	need(ok, api.ErrNone)
	return &c.Tables[table], at
}

// needRoom: there must be fewer than may be.
func needRoom[T any](list []T, most int) { needCount(list, 0, most-1, api.ErrMany) }

// AddTable: the catalog with a table more.
func AddTable(c api.Catalog, t api.Table) (api.Catalog, api.Errno) {
	return changed(c, func(d *api.Catalog) {
		needName(t.Name)
		_, there := Find(*d, t.Name)
		need(!there, api.ErrThere)
		needRoom(d.Tables, api.MaxTables)
		d.Tables = append(d.Tables, cloneTable(t))
	})
}

// DropTable: the catalog without a table.
func DropTable(c api.Catalog, name string) (api.Catalog, api.Errno) {
	return changed(c, func(d *api.Catalog) {
		at, ok := Find(*d, name)
		need(ok, api.ErrNone)
		// It may refer to itself: just the other ones are asked.
		d.Tables = slices.Delete(d.Tables, at, at+1)
		need(!slices.ContainsFunc(d.Tables, func(t api.Table) bool { return refers(t, name) }), api.ErrUsed)
		d.Grants = slices.DeleteFunc(d.Grants, func(g api.Grant) bool { return g.Table == name })
	})
}

// refers: does a table refer to the one that is called so?
func refers(t api.Table, name string) bool {
	return slices.ContainsFunc(t.Refs, func(r api.Ref) bool { return r.To == name })
}

// AddCol: the catalog with a column more.
func AddCol(c api.Catalog, table string, col api.Col) (api.Catalog, api.Errno) {
	return changed(c, func(d *api.Catalog) {
		needName(col.Name)
		t := needTable(d, table)
		_, there := cond.Place(t.Cols, col.Name)
		need(!there, api.ErrThere)
		needRoom(t.Cols, api.MaxCols)
		need(!col.NotNull, api.ErrForm)
		t.Cols = append(t.Cols, cloneCol(col))
	})
}

// AddIndex: the catalog with an index more.
func AddIndex(c api.Catalog, table string, x api.Index) (api.Catalog, api.Errno) {
	return changed(c, func(d *api.Catalog) {
		needName(x.Name)
		// It may be another table's, and the table that is told may be missing: ErrThere is ahead of ErrNone.
		_, _, there := FindIndex(*d, x.Name)
		need(!there, api.ErrThere)
		t := needTable(d, table)
		for _, name := range x.Cols {
			needCol(t, name)
		}
		needRoom(t.Indexes, api.MaxIndexes)
		t.Indexes = append(t.Indexes, cloneIndex(x))
	})
}

// DropIndex: the catalog without an index.
func DropIndex(c api.Catalog, name string) (api.Catalog, api.Errno) {
	return changed(c, func(d *api.Catalog) {
		t, at := needIndex(d, name)
		t.Indexes = slices.Delete(t.Indexes, at, at+1)
	})
}

// Mark: the catalog whose index has a state.
func Mark(c api.Catalog, name string, state int) (api.Catalog, api.Errno) {
	return changed(c, func(d *api.Catalog) {
		t, at := needIndex(d, name)
		t.Indexes[at].State = state
	})
}

// AddCheck: the catalog with a check more.
func AddCheck(c api.Catalog, table string, k api.Check) (api.Catalog, api.Errno) {
	return changed(c, func(d *api.Catalog) {
		needName(k.Name)
		t := needTable(d, table)
		needNoRule(t, k.Name)
		needRoom(t.Checks, api.MaxRules)
		e := cond.Right(k.Conds, t.Cols)
		need(e == api.OK, e)
		t.Checks = append(t.Checks, cloneCheck(k))
	})
}

// AddRef: the catalog with a reference more.
func AddRef(c api.Catalog, table string, r api.Ref) (api.Catalog, api.Errno) {
	return changed(c, func(d *api.Catalog) {
		needName(r.Name)
		t := needTable(d, table)
		needNoRule(t, r.Name)
		col := needCol(t, r.Col)
		to := needTable(d, r.To)
		needRoom(t.Refs, api.MaxRules)
		need(col.Kind == key(*to).Kind, api.ErrType)
		t.Refs = append(t.Refs, cloneRef(r))
	})
}

// needNoRule: no check and no reference of a table may be called so.
func needNoRule(t *api.Table, name string) {
	need(!slices.Contains(ruleNames(*t), name), api.ErrThere)
}

package block

import (
	"slices"

	"sleuth/api"
	"sleuth/attribute"
	"sleuth/bitmap"
	"sleuth/span"
)

// Ints returns the values of an int column.
func (b *Block) Ints(column string) ([]int, api.Errno) {
	if b == nil {
		return nil, api.ErrArgument
	}
	c, isColumn := b.ints[column]
	if !isColumn {
		return nil, api.ErrUnknown
	}
	return c.Values(), api.OK
}

// Strings returns the values of a string column.
func (b *Block) Strings(column string) ([]string, api.Errno) {
	t, e := b.find(column)
	if e != api.OK {
		return nil, e
	}
	return each(b.all().Rows(), t.at), api.OK
}

// Dictionary returns the dictionary of a string column.
func (b *Block) Dictionary(column string) ([]string, api.Errno) {
	t, e := b.find(column)
	if e != api.OK {
		return nil, e
	}
	return slices.Clone(t.dictionary), api.OK
}

// find returns a string column.
func (b *Block) find(column string) (texts, api.Errno) {
	if b == nil {
		return texts{}, api.ErrArgument
	}
	t, isColumn := b.texts[column]
	if !isColumn {
		return texts{}, api.ErrUnknown
	}
	return t, api.OK
}

// Keys returns the keys of all attributes.
func (b *Block) Keys() []string {
	if b == nil {
		return nil
	}
	return slices.Clone(b.attrs.keys.dictionary)
}

// Attr returns the rows that have an attribute with a key, and its values.
func (b *Block) Attr(key string) (rows bitmap.Bitmap, values []api.Value) {
	if b == nil {
		return bitmap.Bitmap{}, nil
	}
	rows = b.where(func(row int) bool {
		v, isThere := attribute.Get(b.attrs.of(row), key)
		if isThere {
			values = append(values, v)
		}
		return isThere
	})
	return rows, values
}

// where returns the rows that satisfy a condition, which is asked for them in order.
func (b *Block) where(isChosen func(row int) bool) bitmap.Bitmap {
	var chosen []int
	for row := range b.rows {
		if isChosen(row) {
			chosen = append(chosen, row)
		}
	}
	rows, _ := bitmap.Of(chosen...)
	return rows
}

// Project returns the values of some fields of some rows.
func (b *Block) Project(rows bitmap.Bitmap, columns []api.Column) ([][]api.Value, api.Errno) {
	spans, e := b.Rows(rows)
	if e != api.OK {
		return nil, e
	}
	values := func(s api.Span) []api.Value {
		view := span.View{Span: s}
		return each(columns, func(c api.Column) api.Value {
			v, _ := view.Value(c.Field, c.Key)
			return v
		})
	}
	return each(spans, values), api.OK
}

// Select returns the rows that satisfy a predicate.
func (b *Block) Select(p api.Pred) bitmap.Bitmap {
	if b == nil {
		return bitmap.Bitmap{}
	}
	return b.where(func(row int) bool { return span.Holds(p, b.at(row)) })
}

// Winners returns the rows of the winners of their identities.
func (b *Block) Winners() bitmap.Bitmap {
	if b == nil {
		return bitmap.Bitmap{}
	}
	// The winner of an identity is its last record.
	return b.where(func(row int) bool { return b.ref(row) != b.ref(row+1) })
}

// ref returns the identity of the span of a row, or one that no span has if there is no such row.
func (b *Block) ref(row int) api.Ref {
	trace, _ := b.ints["trace"].At(row)
	id, _ := b.ints["id"].At(row)
	return api.Ref{Trace: trace, Id: id}
}

// Traces returns the ids of the traces.
func (b *Block) Traces() []int {
	if b == nil {
		return nil
	}
	return slices.Compact(b.ints["trace"].Values())
}

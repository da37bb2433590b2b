package index

import (
	"math"

	"sleuth/api"
	"sleuth/attribute"
	"sleuth/bitmap"
)

// answer is what an index says of a predicate: rows that satisfy it, and all rows that can.
type answer struct{ sure, candidates bitmap.Bitmap }

// fixed is a source that has the same value for all fields.
type fixed api.Value

// Value returns the value of each field.
func (v fixed) Value(field, key string) (api.Value, bool) { return api.Value(v), true }

// Sure returns rows that satisfy a predicate.
func (x *Index) Sure(p api.Pred) (bitmap.Bitmap, api.Errno) {
	a, e := x.ask(p)
	return a.sure, e
}

// Candidates returns all rows that can satisfy a predicate.
func (x *Index) Candidates(p api.Pred) (bitmap.Bitmap, api.Errno) {
	a, e := x.ask(p)
	return a.candidates, e
}

// Exact reports whether exactly the sure rows satisfy a predicate.
func (x *Index) Exact(p api.Pred) (bool, api.Errno) {
	a, e := x.ask(p)
	return e == api.OK && bitmap.Equal(a.sure, a.candidates), e
}

// Count returns bounds of the number of rows that satisfy a predicate.
func (x *Index) Count(p api.Pred) (low, high int, e api.Errno) {
	a, e := x.ask(p)
	return a.sure.Len(), a.candidates.Len(), e
}

// ask returns what the index says of a predicate.
func (x *Index) ask(p api.Pred) (answer, api.Errno) {
	if x == nil {
		return answer{}, api.ErrArgument
	}
	if e := attribute.Check(p); e != api.OK {
		return answer{}, e
	}
	var say func(p api.Pred) answer
	say = func(p api.Pred) answer {
		switch p.Op {
		case api.PredTrue:
			return answer{x.all(), x.all()}
		case api.PredAnd:
			return join(p.Args, say, bitmap.And)
		case api.PredOr:
			return join(p.Args, say, bitmap.Or)
		case api.PredNot:
			a := say(p.Args[0])
			return answer{x.not(a.candidates), x.not(a.sure)}
		}
		return x.test(p)
	}
	return say(p), api.OK
}

// all returns all rows.
func (x *Index) all() bitmap.Bitmap { return x.not(bitmap.Bitmap{}) }

// not returns all other rows.
func (x *Index) not(rows bitmap.Bitmap) bitmap.Bitmap {
	others, _ := bitmap.Not(rows, x.size)
	return others
}

// join returns what is said of arguments, of which there is at least one, together.
func join(args []api.Pred, say func(p api.Pred) answer, both func(a, b bitmap.Bitmap) bitmap.Bitmap) answer {
	joined := say(args[0])
	for _, arg := range args[1:] {
		a := say(arg)
		joined = answer{both(joined.sure, a.sure), both(joined.candidates, a.candidates)}
	}
	return joined
}

// test returns what the index says of a test.
func (x *Index) test(p api.Pred) answer {
	at := place{p.Field, p.Key}
	if p.Op == api.PredHas {
		at.field = attribute.FieldAttr
	}
	switch {
	case isIndexed(at):
		rows := x.where(at, func(v api.Value) bool { return attribute.Holds(p, fixed(v)) })
		return answer{rows, rows}
	case isNumber(p.Field) && p.Value.Kind == api.KindInt:
		return x.compare(p)
	}
	return answer{}
}

// where returns the rows of the values of an indexed field that satisfy a condition.
func (x *Index) where(at place, isChosen func(v api.Value) bool) bitmap.Bitmap {
	var chosen []int
	for found, rows := range x.rows {
		if found.place == at && isChosen(found.value) {
			chosen = append(chosen, rows.Rows()...)
		}
	}
	rows, _ := bitmap.Of(chosen...)
	return rows
}

// compare returns what the zone of a number says of a test with an int.
func (x *Index) compare(p api.Pred) answer {
	// The numbers from least to greatest satisfy the test.
	least, greatest := p.Value.Int, p.Value.Int
	if p.Op == api.PredLess {
		least, greatest = math.MinInt, p.Value.Int-1
	}
	zone := x.zones[p.Field]
	switch {
	case greatest < zone.Least || zone.Greatest < least:
		return answer{}
	case least <= zone.Least && zone.Greatest <= greatest:
		return answer{x.all(), x.all()}
	}
	return answer{candidates: x.all()}
}

package bitmap

import (
	"slices"

	"sleuth/api"
)

// Add returns the set with a further row.
func (b Bitmap) Add(row int) (Bitmap, api.Errno) {
	single, e := Of(row)
	if e != api.OK {
		return Bitmap{}, e
	}
	return Or(b, single), api.OK
}

// And returns the rows that belong to both sets.
func And(a, b Bitmap) Bitmap {
	return merge(a, b, func(inA, inB bool) bool { return inA && inB })
}

// Or returns the rows that belong to one of two sets, or to both.
func Or(a, b Bitmap) Bitmap {
	return merge(a, b, func(inA, inB bool) bool { return inA || inB })
}

// AndNot returns the rows of a that do not belong to b.
func AndNot(a, b Bitmap) Bitmap {
	return merge(a, b, func(inA, inB bool) bool { return inA && !inB })
}

// Not returns the rows less than size that do not belong to b.
func Not(b Bitmap, size int) (Bitmap, api.Errno) {
	all, e := Range(0, size)
	if e != api.OK {
		return Bitmap{}, e
	}
	return AndNot(all, b), api.OK
}

// Shift returns the set whose rows are greater by a number.
func Shift(b Bitmap, by int) (Bitmap, api.Errno) {
	if len(b.runs) == 0 {
		return Bitmap{}, api.OK
	}
	if by < -b.runs[0].First || by >= MaxRow-b.runs[len(b.runs)-1].Last {
		return Bitmap{}, api.ErrRange
	}
	shifted := slices.Clone(b.runs)
	for k := range shifted {
		shifted[k].First += by
		shifted[k].Last += by
	}
	return Bitmap{shifted}, api.OK
}

// Equal reports whether two sets have the same rows.
func Equal(a, b Bitmap) bool { return slices.Equal(a.runs, b.runs) }

// Subset reports whether each row of a belongs to b.
func Subset(a, b Bitmap) bool { return len(AndNot(a, b).runs) == 0 }

// merge goes once through the runs of two sets, and returns the rows that are kept. Rows that belong to neither set are not.
func merge(a, b Bitmap, keep func(inA, inB bool) bool) Bitmap {
	var kept []Run
	leftA, leftB := a.runs, b.runs
	for row := 0; len(leftA) > 0 || len(leftB) > 0; {
		inA, endA := stretch(leftA, row)
		inB, endB := stretch(leftB, row)
		end := min(endA, endB)
		if keep(inA, inB) {
			kept = join(kept, Run{row, end - 1})
		}
		row = end
		leftA, leftB = skip(leftA, row), skip(leftB, row)
	}
	return Bitmap{kept}
}

// stretch reports whether a row belongs to runs, none of which ends before it, and the next row for which this may be different.
func stretch(runs []Run, row int) (bool, int) {
	switch {
	case len(runs) == 0:
		return false, MaxRow
	case row < runs[0].First:
		return false, runs[0].First
	}
	return true, runs[0].Last + 1
}

// skip returns the runs without the first one, if that ends before a row.
func skip(runs []Run, row int) []Run {
	if len(runs) > 0 && runs[0].Last < row {
		return runs[1:]
	}
	return runs
}

// join adds a run to a list of runs. It begins not before the last one of the list.
func join(runs []Run, run Run) []Run {
	last := len(runs) - 1
	if last < 0 || runs[last].Last+1 < run.First {
		return append(runs, run)
	}
	runs[last].Last = max(runs[last].Last, run.Last)
	return runs
}

package attribution

import (
	"cmp"
	"slices"
	"strings"

	"sleuth/api"
)

// MaxTotal is the greatest total of an attribution.
const MaxTotal = 1 << 52

// The levels of keys.
const (
	ByService   = 1
	ByVersion   = 2
	ByOperation = 3
)

// Key names what time is attributed to.
type Key struct{ Service, Version, Operation string }

// Entry is what belongs to a key: the time on the critical path, the spans, those with errors, and those where an error began.
type Entry struct {
	Key                          Key
	Time, Spans, Errors, Origins int
}

// Table is the entries in the order of their keys.
type Table []Entry

// Share is the part of the total time of a key, in parts per million.
type Share struct {
	Key   Key
	Parts int
}

// CompareKeys returns the order of two keys.
func CompareKeys(a, b Key) int {
	return cmp.Or(strings.Compare(a.Service, b.Service), strings.Compare(a.Version, b.Version), strings.Compare(a.Operation, b.Operation))
}

// Check returns the error of a table.
func Check(t Table) api.Errno {
	for k, n := range t {
		if k > 0 && CompareKeys(t[k-1].Key, n.Key) >= 0 {
			return api.ErrOrder
		}
		if f := n.check(); f != api.OK {
			return f
		}
	}
	var time, spans int
	for _, n := range t {
		time, spans = time+n.Time, spans+n.Spans
		if time > MaxTotal || spans > MaxTotal {
			return api.ErrOverflow
		}
	}
	return api.OK
}

// check returns the error of the numbers of an entry.
func (n Entry) check() api.Errno {
	switch {
	case n.isZero():
		return api.ErrEmpty
	case n.Time < 0 || n.Time > MaxTotal, n.Origins < 0 || n.Errors < n.Origins || n.Spans < n.Errors || n.Spans > MaxTotal:
		return api.ErrRange
	}
	return api.OK
}

func (n Entry) isZero() bool { return n == Entry{Key: n.Key} }

// plus returns an entry with the numbers of another one added.
func (n Entry) plus(o Entry) Entry {
	return Entry{n.Key, n.Time + o.Time, n.Spans + o.Spans, n.Errors + o.Errors, n.Origins + o.Origins}
}

// negative returns an entry with the negative numbers.
func (n Entry) negative() Entry { return Entry{n.Key, -n.Time, -n.Spans, -n.Errors, -n.Origins} }

// Equal reports whether two tables are equal.
func Equal(a, b Table) bool { return slices.Equal(a, b) }

// collect returns the sums of the entries with each key, but for those that are zero.
func collect(entries []Entry) Table {
	sums := map[Key]Entry{}
	for _, n := range entries {
		sums[n.Key] = n.plus(sums[n.Key])
	}
	var t Table
	for _, n := range sums {
		if !n.isZero() {
			t = append(t, n)
		}
	}
	slices.SortFunc(t, func(a, b Entry) int { return CompareKeys(a.Key, b.Key) })
	return t
}

// Total returns the time of a table.
func Total(t Table) int {
	total := 0
	for _, n := range t {
		total += n.Time
	}
	return total
}

// Merge adds two tables.
func Merge(a, b Table) (Table, api.Errno) {
	t := collect(slices.Concat(a, b))
	if Check(t) != api.OK {
		return nil, api.ErrOverflow
	}
	return t, api.OK
}

// Difference subtracts a table from another one.
func Difference(a, b Table) Table {
	entries := slices.Clone(a)
	for _, n := range b {
		entries = append(entries, n.negative())
	}
	return collect(entries)
}

// By combines the entries that agree in what a level keeps of their keys.
func By(t Table, level int) (Table, api.Errno) {
	if level < ByService || level > ByOperation {
		return nil, api.ErrKind
	}
	entries := slices.Clone(t)
	for k := range entries {
		entries[k].Key = entries[k].Key.at(level)
	}
	return collect(entries), api.OK
}

// at returns what a level keeps of a key.
func (k Key) at(level int) Key {
	switch level {
	case ByVersion:
		return Key{Service: k.Service, Version: k.Version}
	case ByOperation:
		return Key{Service: k.Service, Operation: k.Operation}
	}
	return Key{Service: k.Service}
}

// Shares returns the parts of the total.
func Shares(t Table) []Share {
	total := Total(t)
	var shares []Share
	for _, n := range t {
		shares = append(shares, Share{n.Key, parts(n.Time, total)})
	}
	return shares
}

// parts returns how many millionths of a total a time is. It divides digit by digit, since a million times the time can be too much for an int.
func parts(time, total int) int {
	if total == 0 {
		return 0
	}
	quotient, rest := time/total, time%total
	for range 6 {
		quotient, rest = 10*quotient+10*rest/total, 10*rest%total
	}
	return quotient
}

// Top returns the entries with the greatest times.
func Top(t Table, n int) Table {
	top := slices.Clone(t)
	slices.SortFunc(top, func(a, b Entry) int { return cmp.Or(cmp.Compare(b.Time, a.Time), CompareKeys(a.Key, b.Key)) })
	return top[:max(0, min(n, len(top)))]
}

package heavyhitter

import (
	"maps"
	"slices"
)

// counts are the counts of keys.
type counts map[string]int

// countsOf returns the counts of some counters, of which several can have the same key.
func countsOf(l []Counter) counts {
	c := counts{}
	for _, x := range l {
		c[x.Key] += x.Count
	}
	return c
}

// lower makes all counts less by a number, and removes those that are not greater than 0 then.
func (c counts) lower(by int) {
	for _, key := range c.keys() {
		c[key] -= by
		if c[key] <= 0 {
			delete(c, key)
		}
	}
}

// counters returns a counter for each key, in the order of the keys.
func (c counts) counters() []Counter {
	var l []Counter
	for _, key := range c.keys() {
		l = append(l, Counter{key, c[key]})
	}
	return l
}

func (c counts) keys() []string { return slices.Sorted(maps.Keys(c)) }

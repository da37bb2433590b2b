package skew

import (
	"sleuth/api"
	"sleuth/constraint"
	"sleuth/message"
)

// component is the clocks that are connected by messages, and the tightest messages between them.
type component struct {
	clocks       []int
	tightest     []api.Message
	isConsistent bool
}

// divide returns the components of clocks, by their least clocks.
func divide(clocks []int, tightest []api.Message) []component {
	representative := representatives(clocks, tightest)
	place := map[int]int{}
	var components []component
	for _, clock := range clocks {
		least := representative(clock)
		if least == clock {
			place[clock] = len(components)
			components = append(components, component{})
		}
		c := &components[place[least]]
		c.clocks = append(c.clocks, clock)
	}
	for _, m := range tightest {
		c := &components[place[representative(m.From)]]
		c.tightest = append(c.tightest, m)
	}
	for k := range components {
		_, isContradictory := constraint.Conflict(components[k].constraints())
		components[k].isConsistent = !isContradictory
	}
	return components
}

// representatives returns the function that finds the least clock of the component of a clock.
func representatives(clocks []int, l []api.Message) func(clock int) int {
	nearer := map[int]int{} // a clock of the same component that is less, if there is one
	for _, clock := range clocks {
		nearer[clock] = clock
	}
	find := func(clock int) int {
		for nearer[clock] != clock {
			nearer[clock] = nearer[nearer[clock]] // so that the way is shorter the next time
			clock = nearer[clock]
		}
		return clock
	}
	for _, m := range l {
		a, b := find(m.From), find(m.To)
		nearer[max(a, b)] = min(a, b)
	}
	return find
}

// constraints returns what the messages say about the offsets, in their order.
func (c component) constraints() []api.Constraint {
	if len(c.tightest) > 0 {
		return message.Constraints(c.tightest)
	}
	// A single clock of which nothing is known still has to be a node. This is always satisfied, so it is in no conflict, and in no shortest chain.
	var l []api.Constraint
	for _, clock := range c.clocks {
		l = append(l, api.Constraint{From: clock, To: clock})
	}
	return l
}

// named returns the messages of some constraints.
func (c component) named(indices []int) []api.Message {
	var l []api.Message
	for _, k := range indices {
		l = append(l, c.tightest[k])
	}
	return l
}

// measure adds the greatest differences of a consistent component.
func (c component) measure(greatest map[pair]int) {
	for from, row := range c.lengths() {
		for to, way := range row {
			if way.isThere {
				greatest[pair{c.clocks[from], c.clocks[to]}] = way.length
			}
		}
	}
}

// way is the shortest chain that is known from one clock to another one, if one is.
type way struct {
	length  int
	isThere bool
}

// lengths returns the least lengths of the chains between all clocks of a consistent component, by their places in it (Floyd, Warshall). No chain is shorter for going around a cycle there.
func (c component) lengths() [][]way {
	place := map[int]int{}
	ways := make([][]way, len(c.clocks))
	for k, clock := range c.clocks {
		place[clock] = k
		ways[k] = make([]way, len(c.clocks))
		ways[k][k] = way{0, true}
	}
	for _, m := range c.tightest {
		ways[place[m.From]][place[m.To]] = way{message.Bound(m), true}
	}
	for middle, onward := range ways {
		for _, row := range ways {
			if row[middle].isThere {
				shorten(row, row[middle].length, onward)
			}
		}
	}
	return ways
}

// shorten makes the ways from a clock as short as those through another one, to which there is a way of some length.
func shorten(row []way, length int, onward []way) {
	for to, w := range onward {
		if w.isThere && (!row[to].isThere || length+w.length < row[to].length) {
			row[to] = way{length + w.length, true}
		}
	}
}

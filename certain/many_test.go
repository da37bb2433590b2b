package certain_test

import (
	"fmt"
	"math/rand"
	"testing"

	"sleuth/api"
	"sleuth/certain"
	"sleuth/critical"
	"sleuth/order"
	"sleuth/skew"
)

// someTrace returns some spans by the clocks 1 to 3, below the span 1.
func someTrace(random *rand.Rand) []api.Span {
	var l []api.Span
	for id := 1; id <= 2+random.Intn(5); id++ {
		start := random.Intn(14)
		s := record(id, random.Intn(id), 1+random.Intn(3), start, start+random.Intn(10))
		if id == 2 {
			s.Parent = 1
		}
		if random.Intn(8) == 0 {
			s.Kind = api.Consumer
		}
		l = append(l, s)
	}
	random.Shuffle(len(l), func(i, j int) { l[i], l[j] = l[j], l[i] })
	return l
}

// someMessages returns some messages that the offsets 0, a and b of the clocks 1 to 3 satisfy.
func someMessages(random *rand.Rand, offset [3]int) []api.Message {
	var l []api.Message
	for range random.Intn(8) {
		from := random.Intn(3)
		to := (from + 1 + random.Intn(2)) % 3
		l = append(l, bound(from+1, to+1, offset[to]-offset[from]+random.Intn(4)))
	}
	return l
}

// far is how far offsets are tried: farther than any chain of messages or events can reach.
const far = 40

// consistent returns all assignments near 0 that satisfy some messages, in which the clock 1 has the offset 0.
func consistent(l []api.Message) [][]api.Offset {
	var all [][]api.Offset
	for a := -far; a <= far; a++ {
		for b := -far; b <= far; b++ {
			v := []api.Offset{{Clock: 1}, {Clock: 2, Value: a}, {Clock: 3, Value: b}}
			isConsistent := true
			for _, m := range l {
				isConsistent = isConsistent && v[m.To-1].Value-v[m.From-1].Value <= m.Received
			}
			if isConsistent {
				all = append(all, v)
			}
		}
	}
	return all
}

// pair is two events.
type pair struct{ x, y api.Event }

// oracle knows all assignments, and what has been asked.
type oracle struct {
	times []map[api.Event]int
	asked map[pair]bool
	found []certain.Answer
	open  []pair
}

func newOracle(l []api.Span, all [][]api.Offset) *oracle {
	o := &oracle{asked: map[pair]bool{}}
	for _, v := range all {
		times := map[api.Event]int{}
		for _, s := range l {
			times[start(s.Id)], times[end(s.Id)] = s.Start-v[s.Clock-1].Value, s.End-v[s.Clock-1].Value
		}
		o.times = append(o.times, times)
	}
	return o
}

// gaps returns the least and the greatest gap that occurs.
func (o *oracle) gaps(x, y api.Event) (low, high int) {
	for k, times := range o.times {
		gap := times[y] - times[x]
		if k == 0 {
			low, high = gap, gap
		}
		low, high = min(low, gap), max(high, gap)
	}
	return low, high
}

// before answers what all assignments agree upon.
func (o *oracle) before(x, y api.Event) (bool, api.Errno) {
	low, high := o.gaps(x, y)
	isFirst := !o.asked[pair{x, y}]
	o.asked[pair{x, y}] = true
	if low <= 0 && high > 0 {
		o.open = append(o.open, pair{x, y})
		return false, api.ErrUndecided
	}
	if isFirst {
		o.found = append(o.found, certain.Answer{X: x, Y: y, Earlier: low > 0})
	}
	return low > 0, api.OK
}

// P18.2 to P18.7: the walk, its answers and its open questions are those of all consistent assignments.
func TestMany(t *testing.T) {
	random := rand.New(rand.NewSource(1))
	decided, open := 0, 0
	for range 400 {
		l := someTrace(random)
		messages := someMessages(random, [3]int{0, random.Intn(9) - 4, random.Intn(9) - 4})
		e := evidenceOf(t, messages)
		all := consistent(messages)
		o := newOracle(l, all)
		want, wantErr := critical.Walk(l, 1, o.before)
		what := fmt.Sprintf(" of %v with %v", l, messages)
		path, f := certain.Path(e, l, 1)
		expectPath(t, "Path"+what, path, f, want, wantErr)
		answers, f := certain.Answers(e, l, 1)
		expectAnswers(t, "Answers"+what, answers, f, o.found, api.OK)
		if len(o.open) > 0 {
			expectOpen(t, "Undecided"+what, e, l, 1, o.open[0].x, o.open[0].y, true, api.OK)
			open++
			continue
		}
		expectOpen(t, "Undecided"+what, e, l, 1, api.Event{}, api.Event{}, false, api.OK)
		decided++
		expectSame(t, l, all, path)
		expectBounds(t, e, l, o, path)
		expectDecisions(t, e, l, o)
	}
	if decided < 100 || open < 100 {
		t.Errorf("%d are decided, and %d are open", decided, open)
	}
}

// expectSame compares the path with that under every assignment.
func expectSame(t *testing.T, l []api.Span, all [][]api.Offset, want []api.Segment) {
	t.Helper()
	for k, v := range all {
		if k%17 == 0 {
			path, f := critical.Path(l, v, 1)
			expectPath(t, "critical.Path", path, f, want, api.OK)
		}
	}
}

// expectBounds compares lengths and totals with those of all assignments.
func expectBounds(t *testing.T, e *skew.Evidence, l []api.Span, o *oracle, path []api.Segment) {
	t.Helper()
	lengths, f := certain.Lengths(e, l, path)
	expectErr(t, "Lengths", f, api.OK)
	want := map[int]certain.Total{}
	for k, b := range lengths {
		low, high := o.gaps(path[k].From, path[k].To)
		if b.Below && b.Low != low || b.Above && b.High != high || !b.Below && (b.Low != 0 || low > -far/2) || !b.Above && (b.High != 0 || high < far/2) {
			t.Errorf("Lengths of %v: %v, want %d to %d", path[k], b, low, high)
		}
		id := path[k].Span.Id
		sum, isThere := want[id]
		if !isThere {
			sum = certain.Total{Id: id, Below: true, Above: true}
		}
		want[id] = certain.Total{Id: id, Low: sum.Low + low, High: sum.High + high, Below: sum.Below && b.Below, Above: sum.Above && b.Above}
	}
	totals, f := certain.Totals(e, l, 1)
	expectErr(t, "Totals", f, api.OK)
	if len(totals) != len(want) {
		t.Errorf("Totals: %v, want %v", totals, want)
	}
	for k, total := range totals {
		wanted := want[total.Id]
		if !wanted.Below {
			wanted.Low = 0
		}
		if !wanted.Above {
			wanted.High = 0
		}
		if total != wanted || k > 0 && total.Id <= totals[k-1].Id {
			t.Errorf("Totals: %v, want %v", totals, want)
		}
	}
}

// expectDecisions compares the decisions with the answers.
func expectDecisions(t *testing.T, e *skew.Evidence, l []api.Span, o *oracle) {
	t.Helper()
	var want []api.Fact
	isThere := map[pair]bool{}
	for _, a := range o.found {
		x, y := a.X, a.Y
		if !a.Earlier {
			x, y = y, x
		}
		from, _ := order.At(l, x)
		to, _ := order.At(l, y)
		if from.Clock == to.Clock || isThere[pair{x, y}] {
			continue
		}
		isThere[pair{x, y}] = true
		low, _ := o.gaps(x, y)
		chain, f := order.Proof(e, from, to)
		expectErr(t, "Proof", f, api.OK)
		if a.Earlier && low < 1 || low < 0 {
			t.Errorf("the answer %v has at least %d in between", a, low)
		}
		want = append(want, decision(x, y, low, chain...))
	}
	decisions, f := certain.Decisions(e, l, 1)
	expectFacts(t, "Decisions", decisions, f, want, api.OK)
	path, _ := certain.Path(e, l, 1)
	fact, f := certain.Fact(e, l, 1)
	expectFacts(t, "Fact", []api.Fact{fact}, f, []api.Fact{{Kind: api.FactPath, A: start(1), Path: path, Proof: api.Proof{Decisions: want}}}, api.OK)
}

// P18.7: further messages never change a certain path, and never answer a question in another way.
func TestFurtherMessages(t *testing.T) {
	random := rand.New(rand.NewSource(2))
	decided, contradictory := 0, 0
	for range 400 {
		l := someTrace(random)
		offset := [3]int{0, random.Intn(9) - 4, random.Intn(9) - 4}
		e := evidenceOf(t, someMessages(random, offset))
		want, f := certain.Path(e, l, 1)
		answers, _ := certain.Answers(e, l, 1)
		more, _ := e.With(someMessages(random, offset))
		now, _ := certain.Answers(more, l, 1)
		if len(now) < len(answers) {
			t.Fatalf("Answers with further messages: %v, before %v", now, answers)
		}
		expectAnswers(t, "Answers with further messages", now[:len(answers)], api.OK, answers, api.OK)
		if f != api.OK {
			continue
		}
		decided++
		path, f := certain.Path(more, l, 1)
		expectPath(t, "Path with further messages", path, f, want, api.OK)
		other, _ := e.With(someMessages(random, [3]int{0, 30, -30}))
		path, f = certain.Path(other, l, 1)
		if f == api.ErrInfeasible {
			contradictory++
			continue
		}
		expectPath(t, "Path with other messages", path, f, want, api.OK)
	}
	if decided < 100 || contradictory < 20 {
		t.Errorf("%d are decided, %d become contradictory", decided, contradictory)
	}
}

// P1: as many spans and questions as there can be, by many clocks.
func TestLargeTrace(t *testing.T) {
	var l []api.Span
	var messages []api.Message
	for id := 1; id <= api.MaxSpans; id++ {
		s := record(id, min(id-1, 1), 1+id%20, 10*id, 10*id+15)
		if id == 1 {
			s.End = 10 * api.MaxSpans
		}
		l = append(l, s)
		messages = append(messages, bound(1+id%20, 1+(id+7)%20, 1), bound(1+(id+7)%20, 1+id%20, 1))
	}
	e := evidenceOf(t, messages)
	answers, f := certain.Answers(e, l, 1)
	expectErr(t, "Answers", f, api.OK)
	fact, f := certain.Fact(e, l, 1)
	if f != api.ErrUndecided || len(answers) == 0 {
		t.Errorf("Fact: %v, %d", fact, f)
	}
}

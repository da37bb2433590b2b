package order_test

import (
	"fmt"
	"math"
	"math/rand"
	"slices"
	"testing"

	"sleuth/api"
	"sleuth/message"
	"sleuth/order"
	"sleuth/skew"
)

// bound returns an exchange that bounds the difference of two offsets.
func bound(from, to, most int) api.Message {
	return api.Message{Kind: api.MessageExchange, From: from, To: to, Received: most}
}

// evidenceOf returns the evidence of a list of two clocks and a bound each.
func evidenceOf(t *testing.T, l ...int) *skew.Evidence {
	t.Helper()
	var messages []api.Message
	for k := 0; k < len(l); k += 3 {
		messages = append(messages, bound(l[k], l[k+1], l[k+2]))
	}
	e, f := skew.New(messages)
	if f != api.OK {
		t.Fatalf("New(%v): %d", messages, f)
	}
	return e
}

func at(clock, time int) order.Point { return order.Point{Clock: clock, Time: time} }

// from, to and exactly return what is known about a gap.
func from(low int) skew.Bounds { return skew.Bounds{Low: low, Below: true} }
func to(high int) skew.Bounds  { return skew.Bounds{High: high, Above: true} }
func within(low, high int) skew.Bounds {
	return skew.Bounds{Low: low, High: high, Below: true, Above: true}
}
func exactly(gap int) skew.Bounds { return within(gap, gap) }

func expectErr(t *testing.T, what string, got, want api.Errno) {
	t.Helper()
	if got != want {
		t.Errorf("%s: the error %d, want %d", what, got, want)
	}
}

func expectGap(t *testing.T, e *skew.Evidence, x, y order.Point, want skew.Bounds, wantErr api.Errno) {
	t.Helper()
	got, f := order.Gap(e, x, y)
	if got != want || f != wantErr {
		t.Errorf("Gap(%v, %v): %v, %d; want %v, %d", x, y, got, f, want, wantErr)
	}
}

// expectKnown compares what Compare and Earlier say with a relation.
func expectKnown(t *testing.T, e *skew.Evidence, x, y order.Point, want int, wantErr api.Errno) {
	t.Helper()
	got, f := order.Compare(e, x, y)
	if got != want || f != wantErr {
		t.Errorf("Compare(%v, %v): %d, %d; want %d, %d", x, y, got, f, want, wantErr)
	}
	if wantErr == api.OK && (want == order.Unknown || want == order.NotAfter) {
		wantErr = api.ErrUndecided
	}
	isEarlier, f := order.Earlier(e, x, y)
	if isEarlier != (want == order.Before) || f != wantErr {
		t.Errorf("Earlier(%v, %v): %v, %d; want the error %d", x, y, isEarlier, f, wantErr)
	}
}

// P16.2 to P16.4: the first example of the document.
func TestExample(t *testing.T) {
	e := evidenceOf(t, 1, 2, 102, 2, 1, -90)
	for _, c := range []struct {
		y     order.Point
		gap   skew.Bounds
		known int
	}{
		{at(2, 205), within(3, 15), order.Before},
		{at(2, 195), within(-7, 5), order.Unknown},
		{at(2, 202), within(0, 12), order.NotAfter},
		{at(2, 203), within(1, 13), order.Before},
		{at(2, 201), within(-1, 11), order.Unknown},
		{at(2, 191), within(-11, 1), order.Unknown},
		{at(2, 190), within(-12, 0), order.NotBefore},
		{at(2, 189), within(-13, -1), order.After},
		{at(2, -189), within(-391, -379), order.After},
		{at(1, 100), exactly(0), order.Same},
		{at(1, 101), exactly(1), order.Before},
		{at(1, 99), exactly(-1), order.After},
	} {
		expectGap(t, e, at(1, 100), c.y, c.gap, api.OK)
		expectKnown(t, e, at(1, 100), c.y, c.known, api.OK)
	}
	proof, f := order.Proof(e, at(1, 100), at(2, 205))
	expectErr(t, "Proof", f, api.OK)
	if !slices.Equal(proof, []api.Message{bound(1, 2, 102)}) {
		t.Errorf("Proof: %v", proof)
	}
}

// P16.2 and P16.3: the second example of the document: clocks without messages.
func TestUnknownClocks(t *testing.T) {
	for _, e := range []*skew.Evidence{evidenceOf(t, 1, 2, 102, 2, 1, -90), evidenceOf(t), {}} {
		for _, c := range []struct{ a, b int }{{1, 7}, {7, 1}, {7, 8}} {
			expectGap(t, e, at(c.a, 0), at(c.b, 1000), skew.Bounds{}, api.OK)
			expectKnown(t, e, at(c.a, 0), at(c.b, 1000), order.Unknown, api.OK)
			proof, f := order.Proof(e, at(c.a, 0), at(c.b, 1000))
			expectErr(t, "Proof", f, api.ErrUnreachable)
			if len(proof) > 0 {
				t.Errorf("Proof: %v", proof)
			}
		}
		expectGap(t, e, at(7, 5), at(7, 9), exactly(4), api.OK)
		expectGap(t, e, at(7, 9), at(7, 5), exactly(-4), api.OK)
		expectKnown(t, e, at(7, 5), at(7, 9), order.Before, api.OK)
		expectKnown(t, e, at(7, 9), at(7, 5), order.After, api.OK)
		expectKnown(t, e, at(7, 9), at(7, 9), order.Same, api.OK)
		proof, f := order.Proof(e, at(7, 5), at(7, 9))
		expectErr(t, "Proof", f, api.OK)
		if len(proof) > 0 {
			t.Errorf("Proof: %v", proof)
		}
	}
}

// P16.2 and P16.3: clocks of which only one bound is known, and clocks that are exactly apart.
func TestOneBound(t *testing.T) {
	e := evidenceOf(t, 1, 2, 10, 3, 4, 10, 4, 3, -10)
	for _, c := range []struct {
		x, y  order.Point
		gap   skew.Bounds
		known int
	}{
		{at(1, 0), at(2, 11), from(1), order.Before},
		{at(1, 0), at(2, 10), from(0), order.NotAfter},
		{at(1, 0), at(2, 9), from(-1), order.Unknown},
		{at(2, 11), at(1, 0), to(-1), order.After},
		{at(2, 10), at(1, 0), to(0), order.NotBefore},
		{at(2, 9), at(1, 0), to(1), order.Unknown},
		{at(3, 0), at(4, 11), exactly(1), order.Before},
		{at(3, 0), at(4, 10), exactly(0), order.Same},
		{at(3, 0), at(4, 9), exactly(-1), order.After},
	} {
		expectGap(t, e, c.x, c.y, c.gap, api.OK)
		expectKnown(t, e, c.x, c.y, c.known, api.OK)
	}
	for _, c := range []struct {
		x, y order.Point
		want []api.Message
		e    api.Errno
	}{
		{at(1, 0), at(2, 0), []api.Message{bound(1, 2, 10)}, api.OK},
		{at(2, 0), at(1, 0), nil, api.ErrUnreachable},
		{at(1, 0), at(3, 0), nil, api.ErrUnreachable},
		{at(2, 7), at(2, 3), nil, api.OK},
	} {
		proof, f := order.Proof(e, c.x, c.y)
		if f != c.e || !slices.Equal(proof, c.want) {
			t.Errorf("Proof(%v, %v): %v, %d; want %v, %d", c.x, c.y, proof, f, c.want, c.e)
		}
	}
}

// P16.2 to P16.4: the errors, in their order.
func TestErrors(t *testing.T) {
	e := evidenceOf(t, 1, 2, 0, 3, 3, -1, 3, 4, 0)
	for _, c := range []struct {
		e    *skew.Evidence
		x, y order.Point
		want api.Errno
	}{
		{nil, at(0, 0), at(0, 0), api.ErrArgument},
		{nil, at(1, 0), at(2, 0), api.ErrArgument},
		{e, at(0, api.MaxTime+1), at(1, api.MaxTime+1), api.ErrRange},
		{e, at(-1, 0), at(3, 0), api.ErrRange},
		{e, at(api.MaxSmall+1, 0), at(1, 0), api.ErrRange},
		{e, at(math.MinInt, 0), at(math.MaxInt, 0), api.ErrRange},
		{e, at(1, api.MaxTime+1), at(0, 0), api.ErrTime},
		{e, at(1, -api.MaxTime-1), at(3, 0), api.ErrTime},
		{e, at(3, math.MinInt), at(3, math.MaxInt), api.ErrTime},
		{e, at(1, 0), at(0, api.MaxTime+1), api.ErrRange},
		{e, at(3, 0), at(api.MaxSmall+1, 0), api.ErrRange},
		{e, at(3, 0), at(1, api.MaxTime+1), api.ErrTime},
		{e, at(4, 0), at(1, -api.MaxTime-1), api.ErrTime},
		{e, at(3, 0), at(1, 0), api.ErrInfeasible},
		{e, at(1, 0), at(3, 0), api.ErrInfeasible},
		{e, at(3, 0), at(3, 5), api.ErrInfeasible},
		{e, at(4, 0), at(4, 0), api.ErrInfeasible},
		{e, at(3, 0), at(4, 0), api.ErrInfeasible},
		{e, at(3, 0), at(9, 0), api.ErrInfeasible},
		{e, at(9, 0), at(4, 0), api.ErrInfeasible},
	} {
		expectGap(t, c.e, c.x, c.y, skew.Bounds{}, c.want)
		expectKnown(t, c.e, c.x, c.y, 0, c.want)
		proof, f := order.Proof(c.e, c.x, c.y)
		expectErr(t, fmt.Sprint("Proof of ", c.x, c.y), f, c.want)
		if len(proof) > 0 {
			t.Errorf("Proof: %v", proof)
		}
	}
	greatest := evidenceOf(t, api.MaxSmall, 1, 0)
	expectGap(t, greatest, at(api.MaxSmall, -api.MaxTime), at(1, api.MaxTime), from(2*api.MaxTime), api.OK)
	expectGap(t, greatest, at(1, api.MaxTime), at(api.MaxSmall, -api.MaxTime), to(-2*api.MaxTime), api.OK)
}

// someEvidence returns evidence about some of the clocks 1 to 4, which is seldom contradictory.
func someEvidence(t *testing.T, random *rand.Rand) *skew.Evidence {
	t.Helper()
	var l []int
	for range random.Intn(7) {
		l = append(l, 1+random.Intn(4), 1+random.Intn(4), random.Intn(9)-2)
	}
	return evidenceOf(t, l...)
}

// hasContradiction reports whether the component of a clock is contradictory. A clock that does not occur is consistent.
func hasContradiction(e *skew.Evidence, clock int) bool {
	isConsistent, f := e.Consistent(clock)
	return f == api.OK && !isConsistent
}

// relationOf returns what is known about two points, from the bounds of their gap.
func relationOf(gap skew.Bounds) int {
	isLeast, isGreatest := gap.Below && gap.Low == 0, gap.Above && gap.High == 0
	switch {
	case gap.Below && gap.Low >= 1:
		return order.Before
	case gap.Above && gap.High <= -1:
		return order.After
	case isLeast && isGreatest:
		return order.Same
	case isLeast:
		return order.NotAfter
	case isGreatest:
		return order.NotBefore
	}
	return order.Unknown
}

// P16.2 to P16.4 and P16.6: the gaps of many points lie within the bounds for every consistent assignment, and the assignments that attain the differences attain the bounds.
func TestGaps(t *testing.T) {
	random := rand.New(rand.NewSource(1))
	for range 1500 {
		e := someEvidence(t, random)
		x, y := at(1+random.Intn(5), random.Intn(20)), at(1+random.Intn(5), random.Intn(20))
		if hasContradiction(e, x.Clock) || hasContradiction(e, y.Clock) {
			expectGap(t, e, x, y, skew.Bounds{}, api.ErrInfeasible)
			continue
		}
		var want skew.Bounds
		least, f := attained(e, x, y)
		if f == api.OK {
			want.Low, want.Below = least, true
		}
		greatest, f := attained(e, y, x)
		if f == api.OK {
			want.High, want.Above = -greatest, true
		}
		expectGap(t, e, x, y, want, api.OK)
		expectKnown(t, e, x, y, relationOf(want), api.OK)
		expectGap(t, e, y, x, skew.Bounds{Low: -want.High, High: -want.Low, Below: want.Above, Above: want.Below}, api.OK)
		expectProof(t, e, x, y, want)
	}
}

// attained returns the gap from x to y, for an assignment in which the offset of the clock of y is as far ahead as possible.
func attained(e *skew.Evidence, x, y order.Point) (int, api.Errno) {
	if x.Clock == y.Clock {
		return y.Time - x.Time, api.OK
	}
	v, f := e.Attain(x.Clock, y.Clock)
	if f != api.OK {
		return 0, f
	}
	offset := map[int]int{}
	for _, o := range v {
		offset[o.Clock] = o.Value
	}
	return (y.Time - offset[y.Clock]) - (x.Time - offset[x.Clock]), api.OK
}

// expectProof looks at all that the document says of what Proof returns.
func expectProof(t *testing.T, e *skew.Evidence, x, y order.Point, gap skew.Bounds) {
	t.Helper()
	proof, f := order.Proof(e, x, y)
	if !gap.Below {
		if len(proof) > 0 || f != api.ErrUnreachable {
			t.Errorf("Proof(%v, %v): %v, %d", x, y, proof, f)
		}
		return
	}
	length, g := message.Length(proof, x.Clock, y.Clock)
	if f != api.OK || g != api.OK || length != y.Time-x.Time-gap.Low {
		t.Errorf("Proof(%v, %v): %v, %d, of the length %d, %d", x, y, proof, f, length, g)
	}
	var want []api.Message
	if x.Clock != y.Clock {
		want, _ = e.Chain(x.Clock, y.Clock)
	}
	if !slices.Equal(proof, want) {
		t.Errorf("Proof(%v, %v): %v, want %v", x, y, proof, want)
	}
}

// P16.6: for the offsets with which clocks have run, the gaps lie within the bounds, and what is certain is true.
func TestTruth(t *testing.T) {
	random := rand.New(rand.NewSource(2))
	for range 500 {
		offset := []int{0, random.Intn(50), random.Intn(50), random.Intn(50), random.Intn(50)}
		var l []int
		for range random.Intn(8) {
			a, b := 1+random.Intn(4), 1+random.Intn(4)
			l = append(l, a, b, offset[b]-offset[a]+random.Intn(5))
		}
		e := evidenceOf(t, l...)
		x, y := at(1+random.Intn(4), random.Intn(50)), at(1+random.Intn(4), random.Intn(50))
		truth := y.Time - offset[y.Clock] - (x.Time - offset[x.Clock])
		gap, f := order.Gap(e, x, y)
		if f != api.OK || gap.Below && truth < gap.Low || gap.Above && truth > gap.High {
			t.Errorf("Gap(%v, %v): %v, %d, but it is %d", x, y, gap, f, truth)
		}
		relation, _ := order.Compare(e, x, y)
		isTrue := []bool{true, truth > 0, truth < 0, truth == 0, truth >= 0, truth <= 0}
		if !isTrue[relation] {
			t.Errorf("Compare(%v, %v): %d, but the gap is %d", x, y, relation, truth)
		}
	}
}

// P16.6: further messages never make a gap wider, nor a certain order uncertain.
func TestMoreMessages(t *testing.T) {
	random := rand.New(rand.NewSource(3))
	for range 1500 {
		e := someEvidence(t, random)
		more, _ := e.With(someEvidence(t, random).Messages())
		x, y := at(1+random.Intn(5), random.Intn(20)), at(1+random.Intn(5), random.Intn(20))
		was, f := order.Gap(e, x, y)
		is, g := order.Gap(more, x, y)
		if g == api.ErrInfeasible {
			continue
		}
		if f != api.OK || was.Below && (!is.Below || is.Low < was.Low) || was.Above && (!is.Above || is.High > was.High) {
			t.Errorf("Gap(%v, %v): %v, and with more messages %v", x, y, was, is)
		}
		before, _ := order.Compare(e, x, y)
		after, _ := order.Compare(more, x, y)
		if (before == order.Before || before == order.After || before == order.Same) && after != before {
			t.Errorf("Compare(%v, %v): %d, and with more messages %d", x, y, before, after)
		}
	}
}

package fragment_test

import (
	"fmt"
	"math"
	"math/rand"
	"reflect"
	"slices"
	"testing"

	"sleuth/api"
	"sleuth/fragment"
)

// record returns a valid record with an identity and an end.
func record(trace, id, end int) api.Span {
	return api.Span{Trace: trace, Id: id, Clock: 1, Kind: api.Server, Service: "api", Operation: "get", End: end}
}

// exchange returns an exchange with such numbers.
func exchange(from, to, sent, received, least int) api.Exchange {
	return api.Exchange{From: from, To: to, Sent: sent, Received: received, Least: least}
}

// pack returns a fragment of records that are valid, and of exchanges.
func pack(agent, seq int, l ...any) api.Fragment {
	f := api.Fragment{Agent: agent, Seq: seq}
	for _, x := range l {
		switch x := x.(type) {
		case api.Span:
			f.Spans = append(f.Spans, x)
		case api.Exchange:
			f.Exchanges = append(f.Exchanges, x)
		}
	}
	return f
}

// records returns so many different records, and exchanges so many different exchanges, from a number on.
func records(from, size int) []api.Span {
	var l []api.Span
	for n := range size {
		l = append(l, record(1, 1+from+n, 0))
	}
	return l
}

func exchanges(from, size int) []api.Exchange {
	var l []api.Exchange
	for n := range size {
		l = append(l, exchange(1, 2, from+n, 0, 0))
	}
	return l
}

// somePack returns a valid fragment with few spans and exchanges, some of them twice, in no order.
func somePack(random *rand.Rand) api.Fragment {
	f := api.Fragment{Agent: 1 + random.Intn(3), Seq: random.Intn(4)}
	for range random.Intn(4) {
		s := record(1+random.Intn(2), 1+random.Intn(2), random.Intn(2))
		for n := range random.Intn(2) {
			s.Attrs = append(s.Attrs, api.Attr{Key: fmt.Sprint("k", n), Value: api.Value{Kind: api.KindBool, Int: random.Intn(2)}})
			s.Links = append(s.Links, api.Ref{Trace: n + 1, Id: 1 + random.Intn(2)})
		}
		f.Spans = append(f.Spans, s)
	}
	for range random.Intn(4) {
		f.Exchanges = append(f.Exchanges, exchange(1+random.Intn(2), 1, random.Intn(2), random.Intn(2), 0))
	}
	f.Spans = append(f.Spans, f.Spans[:random.Intn(1+len(f.Spans))]...)
	f.Exchanges = append(f.Exchanges, f.Exchanges[:random.Intn(1+len(f.Exchanges))]...)
	return f
}

// mixed returns a fragment with the same records and exchanges in another order, some of them twice.
func mixed(random *rand.Rand, f api.Fragment) api.Fragment {
	m := api.Fragment{Agent: f.Agent, Seq: f.Seq}
	for _, k := range random.Perm(len(f.Spans)) {
		m.Spans = append(m.Spans, f.Spans[k], f.Spans[k])
	}
	for _, k := range random.Perm(len(f.Exchanges)) {
		m.Exchanges = append(m.Exchanges, f.Exchanges[k], f.Exchanges[random.Intn(len(f.Exchanges))], f.Exchanges[k])
	}
	return m
}

func expectErr(t *testing.T, what string, got, want api.Errno) {
	t.Helper()
	if got != want {
		t.Errorf("%s: %d, want %d", what, got, want)
	}
}

// expectList compares two lists. Nil and empty ones are equal, but for the lists of records of spans.
func expectList[T any](t *testing.T, what string, got, want []T) {
	t.Helper()
	if !slices.EqualFunc(got, want, func(a, b T) bool { return reflect.DeepEqual(a, b) }) {
		t.Errorf("%s: %v, want %v", what, got, want)
	}
}

// expectFragments compares two lists of fragments. Nil and empty lists are equal.
func expectFragments(t *testing.T, what string, got, want []api.Fragment) {
	t.Helper()
	if len(got) != len(want) {
		t.Errorf("%s: %v, want %v", what, got, want)
		return
	}
	for k := range got {
		if got[k].Agent != want[k].Agent || got[k].Seq != want[k].Seq {
			t.Errorf("%s: %v, want %v", what, got, want)
		}
		expectList(t, what+" (spans)", got[k].Spans, want[k].Spans)
		expectList(t, what+" (exchanges)", got[k].Exchanges, want[k].Exchanges)
	}
}

// P12.1: CheckExchange.
func TestCheckExchange(t *testing.T) {
	for _, c := range []struct {
		x api.Exchange
		e api.Errno
	}{
		{exchange(1, 1, 0, 0, 0), api.OK},
		{exchange(1, 2, 5, -5, 7), api.OK},
		{exchange(api.MaxSmall, api.MaxSmall, api.MaxTime, api.MaxTime, api.MaxTime), api.OK},
		{exchange(1, 1, -api.MaxTime, -api.MaxTime, 0), api.OK},
		{exchange(0, 1, 0, 0, 0), api.ErrRange},
		{exchange(1, 0, 0, 0, 0), api.ErrRange},
		{exchange(-1, 1, 0, 0, 0), api.ErrRange},
		{exchange(api.MaxSmall+1, 1, 0, 0, 0), api.ErrRange},
		{exchange(1, api.MaxSmall+1, 0, 0, 0), api.ErrRange},
		{exchange(1, math.MinInt, 0, 0, 0), api.ErrRange},
		{exchange(1, 1, 0, 0, -1), api.ErrRange},
		{exchange(1, 1, 0, 0, api.MaxTime+1), api.ErrRange},
		{exchange(1, 1, api.MaxTime+1, 0, 0), api.ErrTime},
		{exchange(1, 1, -api.MaxTime-1, 0, 0), api.ErrTime},
		{exchange(1, 1, 0, api.MaxTime+1, 0), api.ErrTime},
		{exchange(1, 1, 0, -api.MaxTime-1, 0), api.ErrTime},
		{exchange(1, 1, math.MinInt, math.MaxInt, 0), api.ErrTime},
		{exchange(0, 1, math.MaxInt, 0, 0), api.ErrRange},
		{exchange(1, 0, 0, math.MinInt, 0), api.ErrRange},
		{exchange(1, 1, math.MaxInt, 0, -1), api.ErrRange},
		{api.Exchange{}, api.ErrRange},
	} {
		expectErr(t, fmt.Sprint("CheckExchange of ", c.x), fragment.CheckExchange(c.x), c.e)
	}
}

// P12.1: Check.
func TestCheck(t *testing.T) {
	const most = api.MaxRecords
	good, bad := record(1, 2, 3), exchange(1, 1, api.MaxTime+1, 0, 0)
	nameless, kindless := good, good
	nameless.Service = ""
	kindless.Kind = 0
	with := func(f api.Fragment, l []api.Span, m []api.Exchange) api.Fragment {
		f.Spans, f.Exchanges = l, m
		return f
	}
	for k, c := range []struct {
		f api.Fragment
		e api.Errno
	}{
		{pack(1, 0), api.OK},
		{pack(api.MaxSmall, api.MaxSmall), api.OK},
		{pack(1, 0, good, good, record(1, 1, 1), exchange(1, 2, 3, 4, 5), exchange(1, 1, 1, 1, 1)), api.OK},
		{with(pack(1, 0), records(0, most), exchanges(0, most)), api.OK},
		{with(pack(1, 0), slices.Repeat([]api.Span{good}, most), nil), api.OK},
		{pack(0, 0), api.ErrRange},
		{pack(-1, 0), api.ErrRange},
		{pack(api.MaxSmall+1, 0), api.ErrRange},
		{pack(1, -1), api.ErrRange},
		{pack(1, api.MaxSmall+1), api.ErrRange},
		{pack(math.MaxInt, math.MinInt), api.ErrRange},
		{with(pack(1, 0), records(0, most+1), nil), api.ErrLimit},
		{with(pack(1, 0), nil, exchanges(0, most+1)), api.ErrLimit},
		{with(pack(1, 0), slices.Repeat([]api.Span{good}, most+1), nil), api.ErrLimit},
		{with(pack(1, 0), nil, make([]api.Exchange, most+1)), api.ErrLimit},
		{with(pack(1, 0), []api.Span{nameless}, make([]api.Exchange, most+1)), api.ErrLimit},
		{with(pack(0, 0), make([]api.Span, most+1), nil), api.ErrRange},
		{pack(0, 0, nameless, bad), api.ErrRange},
		{pack(1, -1, nameless), api.ErrRange},
		{pack(1, 0, nameless), api.ErrName},
		{pack(1, 0, good, kindless, nameless), api.ErrKind},
		{pack(1, 0, good, nameless, kindless), api.ErrName},
		{pack(1, 0, good, nameless, bad), api.ErrName},
		{pack(1, 0, good, bad), api.ErrTime},
		{pack(1, 0, exchange(1, 1, 1, 1, 1), bad, api.Exchange{}), api.ErrTime},
		{pack(1, 0, exchange(1, 1, 1, 1, 1), api.Exchange{}, bad), api.ErrRange},
	} {
		expectErr(t, fmt.Sprint("Check of the fragment ", k), fragment.Check(c.f), c.e)
		s := fragment.New()
		if _, e := s.Add(c.f); e != c.e {
			t.Errorf("Add of the fragment %d: %d, want %d", k, e, c.e)
		}
		if hasAny := len(s.Fragments()) > 0; hasAny != (c.e == api.OK) {
			t.Errorf("Add of the fragment %d: there are %d", k, len(s.Fragments()))
		}
	}
}

// P12.2: Canonical.
func TestCanonical(t *testing.T) {
	a, b, c := record(1, 2, 0), record(1, 2, 1), record(2, 1, 0)
	x, y, z := exchange(1, 1, 0, 0, 0), exchange(1, 1, 0, 0, 1), exchange(1, 2, 0, 0, 0)
	for _, f := range []api.Fragment{
		pack(4, 5, a, b, c, x, y, z),
		pack(4, 5, c, z, b, y, a, x),
		pack(4, 5, b, a, b, c, c, z, x, z, z, y, x),
	} {
		expectFragments(t, "Canonical", []api.Fragment{fragment.Canonical(f)}, []api.Fragment{pack(4, 5, a, b, c, x, y, z)})
	}
	expectFragments(t, "Canonical", []api.Fragment{fragment.Canonical(api.Fragment{Spans: []api.Span{}, Exchanges: []api.Exchange{}})}, make([]api.Fragment, 1))
	strange := pack(math.MinInt, -1, api.Span{}, api.Exchange{}, api.Span{Trace: -1}, api.Exchange{From: -1})
	want := pack(math.MinInt, -1, api.Span{Trace: -1}, api.Span{}, api.Exchange{From: -1}, api.Exchange{})
	expectFragments(t, "Canonical", []api.Fragment{fragment.Canonical(strange)}, []api.Fragment{want})
	random := rand.New(rand.NewSource(1))
	for range 300 {
		f := somePack(random)
		form := fragment.Canonical(f)
		expectFragments(t, "Canonical of a canonical form", []api.Fragment{fragment.Canonical(form)}, []api.Fragment{form})
		expectFragments(t, "Canonical of a mixed one", []api.Fragment{fragment.Canonical(mixed(random, f))}, []api.Fragment{form})
	}
}

// expectIncreasing compares each element of a list with each.
func expectIncreasing[T any](t *testing.T, what string, l []T, compare func(a, b T) int) {
	t.Helper()
	for i, a := range l {
		for j, b := range l {
			want := 0
			if i < j {
				want = -1
			} else if i > j {
				want = 1
			}
			if got := compare(a, b); got != want {
				t.Errorf("%s(%v, %v): %d", what, a, b, got)
			}
		}
	}
}

// P12.2: Compare and CompareExchanges.
func TestCompare(t *testing.T) {
	expectIncreasing(t, "CompareExchanges", []api.Exchange{
		exchange(math.MinInt, 9, 9, 9, 9),
		{},
		exchange(1, 1, 9, 9, 9),
		exchange(1, 2, -9, 9, 9),
		exchange(1, 2, 3, -4, 9),
		exchange(1, 2, 3, 4, 5),
		exchange(1, 2, 3, 4, 6),
		exchange(1, 2, 3, 5, 4),
		exchange(1, 2, 4, 3, 4),
		exchange(1, 3, 2, 3, 4),
		exchange(2, 1, 2, 3, 4),
		exchange(math.MaxInt, math.MinInt, 2, 3, 4),
	}, fragment.CompareExchanges)
	a, b, c := record(1, 2, 0), record(1, 2, 1), record(2, 1, 0)
	x, y := exchange(1, 1, 0, 0, 0), exchange(1, 1, 0, 0, 1)
	increasing := []api.Fragment{
		pack(math.MinInt, 9, c, y),
		pack(1, 7, c, y),
		pack(2, -1, c, y),
		pack(2, 3),
		pack(2, 3, x),
		pack(2, 3, x, y),
		pack(2, 3, y),
		pack(2, 3, a),
		pack(2, 3, a, y),
		pack(2, 3, a, b),
		pack(2, 3, a, b, x),
		pack(2, 3, a, b, c),
		pack(2, 3, a, c),
		pack(2, 3, b, x),
		pack(2, 3, c),
		pack(2, 4),
		pack(3, 0),
	}
	expectIncreasing(t, "Compare", increasing, fragment.Compare)
	random := rand.New(rand.NewSource(2))
	for i, f := range increasing {
		for j, g := range increasing {
			if got := fragment.Compare(mixed(random, f), mixed(random, g)); got != fragment.Compare(f, g) {
				t.Errorf("Compare of the mixed fragments %d and %d: %d", i, j, got)
			}
		}
	}
	if fragment.Compare(pack(1, 1), api.Fragment{Agent: 1, Seq: 1, Spans: []api.Span{}, Exchanges: []api.Exchange{}}) != 0 {
		t.Error("nil and empty lists differ")
	}
}

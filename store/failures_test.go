package store_test

import (
	"fmt"
	"math/rand"
	"slices"
	"testing"

	"sleuth/api"
	"sleuth/disk"
	"sleuth/fragment"
	"sleuth/retention"
	"sleuth/sampling"
	"sleuth/span"
	"sleuth/store"
)

// P35, P35.3: a failure during Commit breaks a store, and Open finds what it was before.
func TestBroken(t *testing.T) {
	for limit := range 2 {
		d := empty(t)
		s := opened(t, d, ages(1, 1))
		stored(t, s, parcel(0, record(at(0, 1), 1)))
		waiting(t, s, parcel(1, record(at(0, 1), 2)))
		d.Limit(limit)
		sum, e := s.Commit()
		expectErr(t, "Commit", e, api.ErrCrash)
		if sum != (store.Summary{}) {
			t.Errorf("Commit: %v", sum)
		}
		expectNothing(t, "a broken store", s, api.ErrState)
		d.Start(nil)
		expectNothing(t, "a broken store on a disk that is up", s, api.ErrState)
		expectRecords(t, "opened again", opened(t, d, ages(1, 1)), record(at(0, 1), 1))
	}
}

// P35: a disk that is down is noticed by Commit only.
func TestDown(t *testing.T) {
	d := empty(t)
	s := opened(t, d, ages(1, 1))
	stored(t, s, parcel(0, record(at(0, 1), 1)))
	d.Crash()
	waiting(t, s, parcel(1, record(at(0, 1), 2)))
	applied(t, s, 3)
	expectRecords(t, "while the disk is down", s, record(at(0, 1), 1))
	// No block can be made, which is looked for first.
	waiting(t, s, parcel(2, withText(at(0, 2), 1, 256)))
	_, e := s.Commit()
	expectErr(t, "Commit", e, api.ErrLong)
	expectErr(t, "Discard", s.Discard(), api.OK)
	waiting(t, s, parcel(1, record(at(0, 1), 2)))
	d.Start(nil)
	committed(t, s, 1, 0, 0, 0)
	expectRecords(t, "while it is up again", s, record(at(0, 1), 1), record(at(0, 1), 2))
	expectState(t, "opened again", opened(t, d, ages(1, 1)), s)
}

// session opens a store, and commits groups of operations until an error comes; it returns how many were committed.
func session(t *testing.T, d *disk.Disk, p retention.Policy, groups []func(s *store.Store)) int {
	t.Helper()
	s := opened(t, d, p)
	for k, do := range groups {
		do(s)
		if _, e := s.Commit(); e != api.OK {
			expectErr(t, "Commit", e, api.ErrCrash)
			return k
		}
	}
	return len(groups)
}

// P35.7: failures at each operation of the disk, behind which any number of bytes is left.
func TestFailures(t *testing.T) {
	p := ages(1, 2)
	groups := []func(s *store.Store){
		func(s *store.Store) {
			waiting(t, s, parcel(0, record(at(0, 1), 1)), parcel(1, record(at(0, 2), 1)))
		},
		func(s *store.Store) {
			applied(t, s, 17)
			waiting(t, s, parcel(2, record(at(0, 3), 1), record(at(1, 1), 1)))
		},
		func(s *store.Store) {
			f := parcel(3, revised(record(at(0, 1), 1), 1))
			f.Exchanges = []api.Exchange{exchange(1, 2)}
			waiting(t, s, f)
			applied(t, s, 17)
			applied(t, s, 32)
		},
	}
	// The states behind so many groups.
	var states []*store.Store
	for k := range len(groups) + 1 {
		d := empty(t)
		session(t, d, p, groups[:k])
		states = append(states, opened(t, d, p))
	}
	whole := empty(t)
	session(t, whole, p, groups)
	for limit := range 8 {
		for left := range whole.Used() + 1 {
			d := empty(t)
			d.Limit(limit)
			n := session(t, d, p, groups)
			d.Crash()
			unsynced := d.Clone()
			d.Start([]int{left})
			s := opened(t, d, p)
			if n < len(groups) && s.Has(4, n+1) {
				// It failed during a Commit, which is found all the same.
				n++
				unsynced.Start(nil)
				if opened(t, unsynced, p).Has(4, n) {
					t.Errorf("what was not synced survives without any byte of it")
				}
			}
			expectState(t, fmt.Sprintf("%d operations, %d bytes", limit, left), s, states[n])
			// It goes on from there.
			stored(t, s, parcel(50, record(at(9, 1), 1)))
			expectState(t, "opened again", opened(t, d, p), s)
			if left > 3 && limit > 5 {
				break
			}
		}
	}
}

// P35.7: without applications, a store has what the set of its fragments has, in whatever order and groups they come.
func TestSetOfFragments(t *testing.T) {
	rng := rand.New(rand.NewSource(36))
	for range 25 {
		var all []api.Fragment
		for seq := range 1 + rng.Intn(20) {
			f := api.Fragment{Agent: 1 + rng.Intn(3), Seq: seq}
			for range rng.Intn(5) {
				f.Spans = append(f.Spans, revised(record(at(rng.Intn(3), 1+rng.Intn(3)), 1+rng.Intn(4)), rng.Intn(3)))
			}
			for range rng.Intn(3) {
				f.Exchanges = append(f.Exchanges, exchange(1+rng.Intn(3), 1+rng.Intn(3)))
			}
			all = append(all, f)
		}
		set := fragment.New()
		for _, f := range all {
			set.Add(f)
		}
		for range 2 {
			d := empty(t)
			s := opened(t, d, ages(1, 1))
			sum := store.Summary{}
			for _, k := range append(rng.Perm(len(all)), rng.Perm(len(all))...) {
				waiting(t, s, all[k])
				if rng.Intn(3) == 0 {
					got, e := s.Commit()
					expectErr(t, "Commit", e, api.OK)
					sum.New, sum.Repeated = sum.New+got.New, sum.Repeated+got.Repeated
				}
				if rng.Intn(9) == 0 && s.Pending() == 0 {
					s = opened(t, d, ages(1, 1))
				}
			}
			got, _ := s.Commit()
			if sum.New+got.New != len(all) || sum.Repeated+got.Repeated != len(all) {
				t.Errorf("%v and %v; want %d", sum, got, len(all))
			}
			expectRecords(t, "the set", s, set.Records()...)
			expectSpans(t, "the set", s.Scan(always(), isEverything()), set.Spans())
			if !slices.Equal(s.Exchanges(), set.Exchanges()) {
				t.Errorf("Exchanges: %v, want %v", s.Exchanges(), set.Exchanges())
			}
		}
	}
}

// model is a store as the terms describe it.
type model struct {
	keeper    *retention.Keeper
	ids       map[[2]int]bool
	exchanges []api.Exchange
}

func (m *model) clone() *model {
	c := &model{m.keeper.Clone(), map[[2]int]bool{}, slices.Clone(m.exchanges)}
	for id := range m.ids {
		c.ids[id] = true
	}
	return c
}

// event is a fragment, or a slot if the agent is 0.
type event struct {
	f    api.Fragment
	slot int
}

// perform returns the model behind some operations, and what they do.
func (m *model) perform(l []event) (*model, store.Summary) {
	c, sum := m.clone(), store.Summary{}
	for _, x := range l {
		id := [2]int{x.f.Agent, x.f.Seq}
		switch {
		case x.f.Agent == 0:
			n, _ := c.keeper.Apply(x.slot)
			sum.Removed += n
		case c.ids[id]:
			sum.Repeated++
		default:
			c.ids[id] = true
			c.exchanges = append(c.exchanges, x.f.Exchanges...)
			n, _ := c.keeper.Add(x.f.Spans)
			sum.New++
			sum.Late += n
		}
	}
	slices.SortFunc(c.exchanges, fragment.CompareExchanges)
	c.exchanges = slices.Compact(c.exchanges)
	return c, sum
}

// matches reports whether a store has what the model has.
func (m *model) matches(s *store.Store) bool {
	got, want := s.Retained(), m.keeper.Retained(m.exchanges)
	for agent := range 4 {
		for seq := range 30 {
			if s.Has(agent, seq) != m.ids[[2]int{agent, seq}] {
				return false
			}
		}
	}
	return slices.EqualFunc(got.Traces, want.Traces, isSame) && slices.Equal(got.Exchanges, want.Exchanges) && s.Now() == m.keeper.Now() &&
		slices.Equal(got.Removed, want.Removed) && slices.Equal(got.Late, want.Late)
}

// randomEvent returns a fragment or a slot that comes behind another one.
func randomEvent(rng *rand.Rand, slot int) event {
	if rng.Intn(5) == 0 {
		return event{slot: slot + rng.Intn(12)}
	}
	f := api.Fragment{Agent: 1 + rng.Intn(3), Seq: rng.Intn(30)}
	for range rng.Intn(6) {
		partition := slot>>api.PartitionBits - 1 + rng.Intn(3)
		f.Spans = append(f.Spans, revised(record(at(max(0, partition), 1+rng.Intn(9)), 1+rng.Intn(3)), rng.Intn(2)))
	}
	if rng.Intn(4) == 0 {
		f.Exchanges = []api.Exchange{exchange(1+rng.Intn(4), 1+rng.Intn(4))}
	}
	return event{f: f}
}

// player uses a store, and knows what it should have.
type player struct {
	t    *testing.T
	rng  *rand.Rand
	d    *disk.Disk
	p    retention.Policy
	s    *store.Store
	want *model
	wait []event
	slot int // the last one that waits or was applied
}

// open opens the store again, perhaps behind a failure, and expects one of several states.
func (x *player) open(states ...*model) {
	x.t.Helper()
	if x.d.Down() {
		x.d.Start([]int{x.rng.Intn(300), x.rng.Intn(300), x.rng.Intn(300)})
	}
	x.s, x.wait = opened(x.t, x.d, x.p), nil
	k := slices.IndexFunc(states, func(m *model) bool { return m.matches(x.s) })
	if k < 0 {
		x.t.Fatal("behind Open, the store has another state")
	}
	x.want = states[k]
	x.slot = x.want.keeper.Now()
}

// commit commits, and opens the store again if the machine fails.
func (x *player) commit() {
	x.t.Helper()
	next, sum := x.want.perform(x.wait)
	got, e := x.s.Commit()
	switch {
	case e == api.OK && got == sum:
		x.want, x.wait = next, nil
	case e == api.ErrCrash && got == store.Summary{}:
		x.open(x.want, next)
	default:
		x.t.Errorf("Commit: %v, %d; want %v", got, e, sum)
	}
}

// step does something.
func (x *player) step() {
	switch choice := x.rng.Intn(20); {
	case choice < 12:
		v := randomEvent(x.rng, x.slot)
		e := api.OK
		if v.f.Agent > 0 {
			e = x.s.Ingest(v.f)
		} else {
			e = x.s.Apply(v.slot)
			x.slot = v.slot
		}
		expectErr(x.t, "an operation", e, api.OK)
		x.wait = append(x.wait, v)
	case choice < 16:
		x.commit()
	case choice < 17:
		expectErr(x.t, "Discard", x.s.Discard(), api.OK)
		x.wait, x.slot = nil, x.want.keeper.Now()
	case choice < 18:
		x.d.Limit(x.rng.Intn(6))
	case choice < 19:
		_, e := x.s.Compact(2 + x.rng.Intn(3))
		expectErr(x.t, "Compact", e, api.OK)
	default:
		x.open(x.want)
	}
}

// P35.1 to P35.7: random operations, failures and scripts, compared with a model.
func TestModel(t *testing.T) {
	rng := rand.New(rand.NewSource(37))
	for range 12 {
		p := retention.Policy{Full: 1, Sampled: 2 + rng.Intn(2), Sampling: sampling.Policy{Default: 1}, Seed: rng.Intn(1024)}
		k, _ := retention.New(p)
		x := &player{t: t, rng: rng, d: empty(t), p: p}
		x.open(&model{keeper: k, ids: map[[2]int]bool{}})
		for range 150 {
			x.step()
			if !x.want.matches(x.s) || x.s.Pending() != len(x.wait) {
				t.Fatalf("the store has another state, or %d operations wait", x.s.Pending())
			}
			expectRecords(t, "the model", x.s, x.want.keeper.Records()...)
			expectSpans(t, "the model", x.s.Scan(always(), isEverything()), span.Winners(x.want.keeper.Records()))
		}
	}
}

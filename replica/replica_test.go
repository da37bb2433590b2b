package replica_test

import (
	"fmt"
	"math"
	"math/rand"
	"slices"
	"testing"

	"sleuth/api"
	"sleuth/checksum"
	"sleuth/encoding"
	"sleuth/replica"
	"sleuth/retention"
	"sleuth/sampling"
	"sleuth/span"
)

// at returns a trace of a partition.
func at(partition, n int) int { return partition<<(api.SlotBits+api.PartitionBits) + n }

// first returns a slot at which a partition is the current one.
func first(partition int) int { return partition << api.PartitionBits }

// record returns a valid span.
func record(trace, id int) api.Span {
	return api.Span{Trace: trace, Id: id, Clock: 1, Kind: api.Server, Service: "api", Operation: "get", Start: 10, End: 30}
}

// revised returns a later record of a span.
func revised(s api.Span, revision int) api.Span {
	s.Revision = revision
	return s
}

// ages returns a policy that keeps every trace until it is removed.
func ages(full, sampled int) retention.Policy {
	return retention.Policy{Full: full, Sampled: sampled}
}

// halving returns a policy that keeps every second trace, more or less, of the partitions behind the full ones.
func halving(full, sampled int) retention.Policy {
	return retention.Policy{Full: full, Sampled: sampled, Sampling: sampling.Policy{Default: 1}}
}

// made returns a replica with records.
func made(t *testing.T, name int, p retention.Policy, l ...api.Span) *replica.Replica {
	t.Helper()
	r, e := replica.New(name, p)
	if e != api.OK || r == nil {
		t.Fatalf("New: %v, %d", r, e)
	}
	if len(l) > 0 {
		expectAdded(t, r, 0, l...)
	}
	return r
}

func expectErr(t *testing.T, what string, got, want api.Errno) {
	t.Helper()
	if got != want {
		t.Errorf("%s: the error %d, want %d", what, got, want)
	}
}

// expectAdded adds records, and expects how many are late.
func expectAdded(t *testing.T, r *replica.Replica, late int, l ...api.Span) {
	t.Helper()
	if got, e := r.Add(l); got != late || e != api.OK {
		t.Errorf("Add of %d records: %d, %d; want %d", len(l), got, e, late)
	}
}

// expectApplied applies a slot, and expects how many traces are removed.
func expectApplied(t *testing.T, r *replica.Replica, slot, removed int) {
	t.Helper()
	if got, e := r.Apply(slot); got != removed || e != api.OK {
		t.Errorf("Apply of %d: %d, %d; want %d", slot, got, e, removed)
	}
}

// expectPulled pulls, and expects what this does.
func expectPulled(t *testing.T, what string, r, o *replica.Replica, asked, copied, records int) {
	t.Helper()
	before := o.Clone()
	got, e := r.Pull(o)
	if want := (replica.Pulled{Asked: asked, Copied: copied, Records: records}); got != want || e != api.OK {
		t.Errorf("%s: Pull: %v, %d; want %v", what, got, e, want)
	}
	if !o.Equal(before) {
		t.Errorf("%s: the other replica has changed", what)
	}
}

func expectSpans(t *testing.T, what string, got, want []api.Span) {
	t.Helper()
	if !slices.EqualFunc(got, want, span.Equal) {
		t.Errorf("%s: %v, want %v", what, got, want)
	}
}

// expectVector expects versions, which are given as pairs of a partition and a version.
func expectVector(t *testing.T, what string, r *replica.Replica, pairs ...int) {
	t.Helper()
	var want []replica.Mark
	for k := 0; k < len(pairs); k += 2 {
		want = append(want, replica.Mark{Partition: pairs[k], Version: pairs[k+1]})
	}
	if got := r.Vector(); !slices.Equal(got, want) {
		t.Errorf("%s: Vector: %v, want %v", what, got, want)
	}
}

// expectRecords expects what a replica tells about its records.
func expectRecords(t *testing.T, what string, r *replica.Replica, l ...api.Span) {
	t.Helper()
	of := map[int][]api.Span{}
	var partitions []int
	for _, s := range span.Set(l) {
		p := s.Trace >> (api.SlotBits + api.PartitionBits)
		if len(of[p]) == 0 {
			partitions = append(partitions, p)
		}
		of[p] = append(of[p], s)
	}
	if got := r.Partitions(); !slices.Equal(got, partitions) {
		t.Errorf("%s: Partitions: %v, want %v", what, got, partitions)
	}
	var digests []replica.Digest
	for _, p := range partitions {
		expectSpans(t, fmt.Sprint(what, ": Records of ", p), r.Records(p), of[p])
		sum := uint32(0)
		for _, s := range of[p] {
			sum = checksum.Link(sum, encoding.EncodeSpan(s))
		}
		digests = append(digests, replica.Digest{Partition: p, Records: len(of[p]), Sum: sum})
	}
	if got := r.Digests(); !slices.Equal(got, digests) {
		t.Errorf("%s: Digests: %v, want %v", what, got, digests)
	}
	expectSpans(t, what+": the keeper", r.Keeper().Records(), span.Set(l))
}

// expectDiffers expects in which partitions two replicas differ, seen from both.
func expectDiffers(t *testing.T, what string, r, o *replica.Replica, want ...int) {
	t.Helper()
	for _, pair := range [][2]*replica.Replica{{r, o}, {o, r}} {
		if got, e := pair[0].Differs(pair[1]); !slices.Equal(got, want) || e != api.OK {
			t.Errorf("%s: Differs: %v, %d; want %v", what, got, e, want)
		}
	}
}

// expectEqual expects whether two replicas are equal, seen from both.
func expectEqual(t *testing.T, what string, r, o *replica.Replica, want bool) {
	t.Helper()
	if r.Equal(o) != want || o.Equal(r) != want {
		t.Errorf("%s: Equal: %v, %v; want %v", what, r.Equal(o), o.Equal(r), want)
	}
}

// P34.1: names and policies, with the errors in their order.
func TestNew(t *testing.T) {
	wrong := sampling.Rule{Where: api.Pred{Op: 99}}
	rules := retention.Policy{Full: 1, Sampled: 2, Sampling: sampling.Policy{Rules: []sampling.Rule{wrong}}}
	for _, c := range []struct {
		name int
		p    retention.Policy
		e    api.Errno
	}{
		{1, ages(1, 2), api.OK},
		{2, halving(0, 0), api.OK},
		{api.MaxSmall, ages(1, 65536), api.OK},
		{0, ages(1, 2), api.ErrRange},
		{-1, rules, api.ErrRange},
		{api.MaxSmall + 1, rules, api.ErrRange},
		{math.MinInt, ages(1, 2), api.ErrRange},
		{math.MaxInt, ages(1, 2), api.ErrRange},
		{1, ages(2, 1), api.ErrRange},
		{1, rules, api.ErrKind},
		{1, retention.Policy{Seed: sampling.Seeds}, api.ErrRange},
	} {
		r, e := replica.New(c.name, c.p)
		expectErr(t, fmt.Sprintf("New of %d, %v", c.name, c.p), e, c.e)
		if c.e != api.OK {
			if r != nil {
				t.Errorf("New of %d, %v: a replica with an error", c.name, c.p)
			}
			continue
		}
		if r.Name() != c.name {
			t.Errorf("Name: %d, want %d", r.Name(), c.name)
		}
		expectRecords(t, "a new replica", r)
		expectVector(t, "a new replica", r)
		if k, _ := retention.New(c.p); !r.Keeper().Equal(k) {
			t.Errorf("the keeper of a new replica: %v", r.Keeper())
		}
	}
}

// P34.1: Keeper returns a copy, and the policy that was given can change.
func TestKeeper(t *testing.T) {
	p := retention.Policy{Full: 1, Sampled: 2, Sampling: sampling.Policy{Rules: []sampling.Rule{{Exponent: 3}}}}
	r := made(t, 1, p, record(at(0, 1), 1))
	before := r.Clone()
	p.Sampling.Rules[0].Exponent = 0
	k := r.Keeper()
	k.Add([]api.Span{record(at(0, 1), 2)})
	k.Apply(first(5))
	expectRecords(t, "the replica", r, record(at(0, 1), 1))
	expectEqual(t, "the replica", r, before, true)
	p.Sampling.Rules[0].Exponent = 3
	want, _ := retention.New(p)
	want.Add([]api.Span{record(at(0, 1), 1)})
	if !r.Keeper().Equal(want) {
		t.Error("the keeper has another policy")
	}
}

// P34.2, P34.3: the errors are those of the keeper, and nothing changes.
func TestAddErrors(t *testing.T) {
	good, unnamed := record(at(1, 1), 1), record(at(1, 1), 2)
	unnamed.Service = ""
	r := made(t, 1, ages(2, 3), record(at(0, 1), 1))
	expectApplied(t, r, first(1)+3, 0)
	before := r.Clone()
	for _, c := range []struct {
		l []api.Span
		e api.Errno
	}{
		{[]api.Span{{}}, api.ErrRange},
		{[]api.Span{good, unnamed, record(0, 1)}, api.ErrName},
		{[]api.Span{good, record(at(0, 1), 0), unnamed}, api.ErrRange},
	} {
		n, e := r.Add(c.l)
		expectErr(t, fmt.Sprintf("Add of %v", c.l), e, c.e)
		if n != 0 {
			t.Errorf("Add of %v: %d", c.l, n)
		}
	}
	for _, c := range []struct {
		slot int
		e    api.Errno
	}{{-1, api.ErrTime}, {api.MaxSlot + 1, api.ErrTime}, {math.MinInt, api.ErrTime}, {math.MaxInt, api.ErrTime}, {first(1) + 2, api.ErrOrder}, {0, api.ErrOrder}} {
		n, e := r.Apply(c.slot)
		expectErr(t, fmt.Sprint("Apply of ", c.slot), e, c.e)
		if n != 0 {
			t.Errorf("Apply of %d: %d", c.slot, n)
		}
	}
	expectEqual(t, "behind errors", r, before, true)
	expectVector(t, "behind errors", r, 0, 1)
}

// P34.2, P34.3: what makes the version of a partition greater.
func TestVersions(t *testing.T) {
	a, b, c := record(at(0, 1), 1), record(at(0, 1), 2), record(at(3, 1), 1)
	r := made(t, 1, ages(4, 6))
	expectVector(t, "nothing", r)
	expectAdded(t, r, 0)
	expectVector(t, "no records", r)
	expectAdded(t, r, 0, c, a, b, c, record(at(3, 2), 1))
	expectVector(t, "once for each call", r, 0, 1, 3, 1)
	expectAdded(t, r, 0, a, c)
	expectVector(t, "nothing new", r, 0, 1, 3, 1)
	expectAdded(t, r, 0, b, revised(c, 1), a)
	expectVector(t, "a revision", r, 0, 1, 3, 2)
	expectAdded(t, r, 0, record(at(1, 1), 1), record(at(1, 1), 2), a)
	expectVector(t, "a new partition", r, 0, 1, 1, 1, 3, 2)
	expectApplied(t, r, first(4), 0)
	expectVector(t, "all are kept", r, 0, 1, 1, 1, 3, 2)
	expectAdded(t, r, 2, record(at(0, 2), 1), record(at(0, 2), 1))
	expectVector(t, "late ones", r, 0, 1, 1, 1, 3, 2)
	expectAdded(t, r, 1, record(at(0, 1), 3), record(at(0, 2), 1))
	expectVector(t, "a record of a retained trace", r, 0, 2, 1, 1, 3, 2)
	expectApplied(t, r, first(6), 1)
	expectVector(t, "removed", r, 0, 3, 1, 1, 3, 2)
	expectApplied(t, r, first(6), 0)
	expectApplied(t, r, first(6)+15, 0)
	expectVector(t, "nothing more", r, 0, 3, 1, 1, 3, 2)
	expectApplied(t, r, first(20), 3)
	expectVector(t, "all removed", r, 0, 3, 1, 2, 3, 3)
	expectRecords(t, "all removed", r)
	expectAdded(t, r, 1, a)
	expectVector(t, "too late", r, 0, 3, 1, 2, 3, 3)
}

// P34.2, P34.3: sampling changes the partitions from which it removes traces.
func TestSampled(t *testing.T) {
	var l []api.Span
	for n := range 40 {
		l = append(l, record(at(n%2, n+1), 1), record(at(n%2, n+1), 2))
	}
	r := made(t, 1, halving(1, 9), l...)
	k := r.Keeper()
	removed, _ := k.Apply(first(1))
	if removed == 0 || removed == 20 {
		t.Fatalf("%d traces are removed", removed)
	}
	expectApplied(t, r, first(1), removed)
	expectVector(t, "sampled", r, 0, 2, 1, 1)
	expectRecords(t, "sampled", r, k.Records()...)
	if !r.Keeper().Equal(k) {
		t.Error("the keepers differ")
	}
}

// P34.4: partitions with different records.
func TestDiffers(t *testing.T) {
	a, b, c := record(at(0, 1), 1), record(at(2, 1), 1), record(at(7, 1), 1)
	for _, x := range []struct {
		left, right []api.Span
		want        []int
	}{
		{nil, nil, nil},
		{[]api.Span{a, b, c}, []api.Span{c, a, b}, nil},
		{[]api.Span{c, a}, nil, []int{0, 7}},
		{[]api.Span{a, c}, []api.Span{b}, []int{0, 2, 7}},
		{[]api.Span{b, c, revised(a, 1)}, []api.Span{a, b, c}, []int{0}},
		{[]api.Span{b, c, a}, []api.Span{a, b, revised(b, 2), record(at(7, 1), 2)}, []int{2, 7}},
		{[]api.Span{b}, []api.Span{b, c}, []int{7}},
	} {
		r, o := made(t, 1, ages(1, 1), x.left...), made(t, 2, ages(2, 2), x.right...)
		expectDiffers(t, fmt.Sprintf("%v and %v", x.left, x.right), r, o, x.want...)
		expectDiffers(t, "a replica and itself", r, r)
	}
	// Different ways to the same records do not matter.
	r, o := made(t, 1, ages(1, 1), a, record(at(0, 2), 1)), made(t, 1, ages(1, 1), b, a)
	expectApplied(t, o, first(1), 1)
	expectApplied(t, r, first(1), 2)
	expectDiffers(t, "one is empty", r, o, 2)
	expectAdded(t, r, 0, b)
	expectDiffers(t, "equal in the end", r, o)
}

// P34.5: the first example of the document.
func TestFirstExample(t *testing.T) {
	a, b, c := record(at(5, 1), 1), record(at(5, 2), 1), record(at(5, 2), 2)
	x, y := made(t, 1, ages(1, 2), a, b), made(t, 2, ages(1, 2), b, c)
	expectVector(t, "1", x, 5, 1)
	expectVector(t, "2", y, 5, 1)
	expectDiffers(t, "at first", x, y, 5)
	expectPulled(t, "1 from 2", x, y, 1, 1, 1)
	expectVector(t, "1", x, 5, 2)
	expectRecords(t, "1", x, a, b, c)
	expectPulled(t, "1 from 2 again", x, y, 0, 0, 0)
	expectPulled(t, "2 from 1", y, x, 1, 1, 1)
	expectVector(t, "2", y, 5, 2)
	expectPulled(t, "1 from 2 once more", x, y, 1, 0, 0)
	expectPulled(t, "1 from 2 at last", x, y, 0, 0, 0)
	expectPulled(t, "2 from 1 at last", y, x, 0, 0, 0)
	expectVector(t, "1", x, 5, 2)
	expectVector(t, "2", y, 5, 2)
	expectRecords(t, "2", y, a, b, c)
	expectDiffers(t, "at last", x, y)
}

// P34.5, P34.7: the second example of the document.
func TestSecondExample(t *testing.T) {
	a := record(at(0, 1), 1)
	x, y := made(t, 1, ages(1, 1), a), made(t, 2, ages(1, 1), a, record(at(0, 2), 1))
	expectApplied(t, x, first(1), 1)
	before := x.Clone()
	expectPulled(t, "1 from 2", x, y, 1, 0, 0)
	expectRecords(t, "1", x)
	if !x.Keeper().Equal(before.Keeper()) {
		t.Error("a pull has changed the keeper")
	}
	expectVector(t, "1", x, 0, 2)
	expectPulled(t, "1 from 2 again", x, y, 0, 0, 0)
	// The partition was emptied in 1, and 2 has not seen this.
	expectPulled(t, "2 from 1", y, x, 1, 0, 0)
	expectRecords(t, "2", y, a, record(at(0, 2), 1))
}

// P34.5: the errors in their order, behind which nothing has changed.
func TestPullErrors(t *testing.T) {
	r := made(t, 3, ages(1, 2), record(at(0, 1), 1))
	before := r.Clone()
	twin := made(t, 3, ages(2, 2), record(at(0, 1), 2))
	for _, c := range []struct {
		what string
		r, o *replica.Replica
		e    api.Errno
	}{
		{"nil from nil", nil, nil, api.ErrArgument},
		{"nil from one", nil, r, api.ErrArgument},
		{"one from nil", r, nil, api.ErrArgument},
		{"one from itself", r, r, api.ErrConflict},
		{"one from its copy", r, r.Clone(), api.ErrConflict},
		{"one from another one with its name", r, twin, api.ErrConflict},
	} {
		pulled, e := c.r.Pull(c.o)
		expectErr(t, c.what, e, c.e)
		if pulled != (replica.Pulled{}) {
			t.Errorf("%s: %v", c.what, pulled)
		}
	}
	expectEqual(t, "behind errors", r, before, true)
	for _, pair := range [][2]*replica.Replica{{nil, nil}, {nil, r}, {r, nil}} {
		got, e := pair[0].Differs(pair[1])
		expectErr(t, "Differs of nil", e, api.ErrArgument)
		if got != nil {
			t.Errorf("Differs of nil: %v", got)
		}
	}
}

// P34.5, P34.7: what can be taken depends on the tier, and on whether the trace is retained.
func TestTake(t *testing.T) {
	mine := []api.Span{record(at(0, 1), 1), record(at(1, 1), 1), record(at(2, 1), 1)}
	var theirs []api.Span
	for p := range 4 {
		theirs = append(theirs, record(at(p, 1), 1), record(at(p, 1), 2), record(at(p, 2), 1))
	}
	x, y := made(t, 1, ages(2, 3), mine...), made(t, 2, ages(9, 9), theirs...)
	expectApplied(t, x, first(3), 1)
	// The partition 0 is gone, 1 is sampled, 2 and 3 are full.
	expectPulled(t, "at 3", x, y, 4, 3, 6)
	want := []api.Span{
		record(at(1, 1), 1), record(at(1, 1), 2),
		record(at(2, 1), 1), record(at(2, 1), 2), record(at(2, 2), 1),
		record(at(3, 1), 1), record(at(3, 1), 2), record(at(3, 2), 1),
	}
	expectRecords(t, "at 3", x, want...)
	expectVector(t, "at 3", x, 0, 2, 1, 2, 2, 2, 3, 1)
	if late := x.Keeper().Late(); len(late) != 0 {
		t.Errorf("Late: %v", late)
	}
	expectAdded(t, y, 0, record(at(1, 1), 3), record(at(2, 2), 2))
	expectPulled(t, "later", x, y, 2, 2, 2)
	expectRecords(t, "later", x, append(want, record(at(1, 1), 3), record(at(2, 2), 2))...)
	expectApplied(t, x, first(99), 5)
	expectAdded(t, y, 0, record(at(3, 1), 9))
	expectPulled(t, "at 99", x, y, 1, 0, 0)
	expectRecords(t, "at 99", x)
}

// P34.5: each replica is seen for itself.
func TestSeen(t *testing.T) {
	a, b, c := record(at(0, 1), 1), record(at(1, 1), 1), record(at(0, 2), 1)
	x, y, z := made(t, 1, ages(9, 9)), made(t, 2, ages(9, 9), a, b), made(t, 3, ages(9, 9), b, a)
	expectPulled(t, "from 2", x, y, 2, 2, 2)
	expectPulled(t, "from 3", x, z, 2, 0, 0)
	expectPulled(t, "from both again", x, y, 0, 0, 0)
	expectPulled(t, "from both again", x, z, 0, 0, 0)
	expectAdded(t, z, 0, c)
	expectAdded(t, y, 0, c)
	expectPulled(t, "from 3", x, z, 1, 1, 1)
	expectPulled(t, "from 2", x, y, 1, 0, 0)
	expectVector(t, "1", x, 0, 2, 1, 1)
	// A change of this replica itself does not make it ask again.
	expectAdded(t, x, 0, record(at(0, 3), 1))
	expectPulled(t, "from 2 again", x, y, 0, 0, 0)
	// Several changes are asked for at once.
	for id := range 3 {
		expectAdded(t, y, 0, record(at(1, 1), 5+id))
	}
	expectPulled(t, "from 2 at last", x, y, 1, 1, 3)
	expectVector(t, "1", x, 0, 3, 1, 2)
}

// P34.6: independent copies.
func TestClone(t *testing.T) {
	x, y := made(t, 1, ages(1, 2), record(at(0, 1), 1)), made(t, 2, ages(1, 2), record(at(0, 2), 1))
	expectPulled(t, "1 from 2", x, y, 1, 1, 1)
	before, copied := x.Clone(), x.Clone()
	expectEqual(t, "a copy", x, copied, true)
	if copied.Name() != 1 {
		t.Errorf("the name of a copy: %d", copied.Name())
	}
	// The copy has seen what the replica has seen.
	expectPulled(t, "the copy from 2", copied, y, 0, 0, 0)
	expectAdded(t, y, 0, record(at(0, 2), 2), record(at(1, 1), 1))
	expectPulled(t, "the copy from 2", copied, y, 2, 2, 2)
	expectAdded(t, copied, 0, record(at(5, 1), 1))
	expectEqual(t, "the replica", x, before, true)
	expectEqual(t, "the copy", x, copied, false)
	expectPulled(t, "the replica from 2", x, y, 2, 2, 2)
	expectAdded(t, x, 0, record(at(5, 1), 1))
	expectEqual(t, "both", x, copied, true)
	expectApplied(t, copied, first(1), 0)
	expectEqual(t, "another slot", x, copied, false)
	expectApplied(t, x, first(1), 0)
	expectEqual(t, "the same slot", x, copied, true)
	expectApplied(t, x, first(3), 3)
	expectRecords(t, "the copy", copied, record(at(0, 1), 1), record(at(0, 2), 1), record(at(0, 2), 2), record(at(1, 1), 1), record(at(5, 1), 1))
	// The policy of a copy is the same.
	o := made(t, 9, ages(9, 9), record(at(2, 1), 1), record(at(3, 1), 1))
	r := made(t, 1, ages(1, 2))
	expectApplied(t, r, first(3), 0)
	expectPulled(t, "a copy", r.Clone(), o, 2, 1, 1)
	if (*replica.Replica)(nil).Clone() != nil {
		t.Error("a copy of nil")
	}
}

// P34.6: what equal replicas have in common.
func TestEqual(t *testing.T) {
	a, b := record(at(0, 1), 1), record(at(0, 1), 2)
	x := made(t, 1, ages(9, 9), a, b)
	expectEqual(t, "the same", x, made(t, 1, ages(9, 9), b, a), true)
	expectEqual(t, "another name", x, made(t, 2, ages(9, 9), a, b), false)
	expectEqual(t, "another policy", x, made(t, 1, ages(9, 10), a, b), false)
	expectEqual(t, "other records", x, made(t, 1, ages(9, 9), a), false)
	y := made(t, 1, ages(9, 9), a)
	expectAdded(t, y, 0, b)
	expectEqual(t, "other versions", x, y, false)
	z := made(t, 1, ages(9, 9), a)
	expectPulled(t, "from another one", z, made(t, 2, ages(9, 9), b), 1, 1, 1)
	expectVector(t, "pulled", z, 0, 2)
	expectVector(t, "added", y, 0, 2)
	expectEqual(t, "another one was seen", y, z, false)
	expectPulled(t, "from a third one", y, made(t, 3, ages(9, 9), a), 1, 0, 0)
	expectEqual(t, "others were seen", y, z, false)
	expectPulled(t, "from the other one", y, made(t, 2, ages(9, 9), a), 1, 0, 0)
	expectPulled(t, "from a third one", z, made(t, 3, ages(9, 9), a), 1, 0, 0)
	expectEqual(t, "both were seen", y, z, true)
	later := made(t, 2, ages(9, 9), a)
	expectAdded(t, later, 0, b)
	expectPulled(t, "from the other one", z, later, 1, 0, 0)
	expectEqual(t, "a later version was seen", y, z, false)
	expectEqual(t, "nil", x, nil, false)
	expectEqual(t, "nil and nil", nil, nil, true)
}

// P1: methods of a nil replica.
func TestNil(t *testing.T) {
	var r *replica.Replica
	n, e := r.Add([]api.Span{{}})
	expectErr(t, "Add", e, api.ErrArgument)
	m, e := r.Apply(-1)
	expectErr(t, "Apply", e, api.ErrArgument)
	if n != 0 || m != 0 || r.Name() != 0 || r.Keeper() != nil {
		t.Errorf("Add: %d, Apply: %d, Name: %d, Keeper: %v", n, m, r.Name(), r.Keeper())
	}
	if len(r.Partitions()) != 0 || len(r.Records(0)) != 0 || len(r.Digests()) != 0 || len(r.Vector()) != 0 {
		t.Error("a nil replica has records")
	}
}

// P1: a replica that New has not made has no name, and the zero policy.
func TestZeroValue(t *testing.T) {
	var r replica.Replica
	o := made(t, 1, ages(1, 1), record(at(0, 1), 1), record(at(1, 1), 1))
	expectRecords(t, "the zero value", &r)
	expectPulled(t, "from it", o, &r, 0, 0, 0)
	expectPulled(t, "the zero value", &r, o, 2, 1, 1)
	expectRecords(t, "the zero value", &r, record(at(1, 1), 1))
	expectAdded(t, &r, 1, record(at(0, 1), 1), record(at(2, 1), 1))
	expectVector(t, "the zero value", &r, 1, 1, 2, 1)
	expectEqual(t, "a copy", &r, r.Clone(), true)
	var twin replica.Replica
	_, e := twin.Pull(&r)
	expectErr(t, "two without a name", e, api.ErrConflict)
}

// The rules of the document: arguments and results are independent of the replica.
func TestIndependence(t *testing.T) {
	attrs := func() []api.Attr { return []api.Attr{{Key: "k", Value: api.Value{Kind: api.KindInt, Int: 5}}} }
	a := record(at(0, 1), 1)
	a.Attrs, a.Links = attrs(), []api.Ref{{Trace: 1, Id: 2}}
	want := a
	want.Attrs, want.Links = attrs(), []api.Ref{{Trace: 1, Id: 2}}
	l := []api.Span{a}
	x, y := made(t, 1, ages(1, 1), l...), made(t, 2, ages(1, 1))
	l[0].Id = 9
	l[0].Attrs[0].Key, l[0].Links[0].Id = "changed", 9
	expectRecords(t, "behind Add", x, want)
	expectPulled(t, "2 from 1", y, x, 1, 1, 1)
	for range 2 {
		got := x.Records(0)
		got[0].Attrs[0].Key, got[0].Links[0].Id, got[0].Service = "changed", 9, "changed"
		x.Partitions()[0], x.Vector()[0].Version, x.Digests()[0].Sum = 9, 9, 9
		expectRecords(t, "1", x, want)
		expectVector(t, "1", x, 0, 1)
		x, y = y, x
	}
	expectDiffers(t, "both", x, y)
}

// P34.7: as long as all is full, a pull brings everything, and replicas converge whatever arrives where, how often and in which order.
func TestConverge(t *testing.T) {
	rng := rand.New(rand.NewSource(34))
	for round := range 60 {
		var all []api.Span
		for range 1 + rng.Intn(40) {
			all = append(all, revised(record(at(rng.Intn(4), 1+rng.Intn(3)), 1+rng.Intn(3)), rng.Intn(2)))
		}
		var replicas []*replica.Replica
		for name := range 2 + rng.Intn(4) {
			replicas = append(replicas, made(t, name+1, ages(9, 9)))
		}
		for range 3 {
			for _, s := range all {
				expectAdded(t, replicas[rng.Intn(len(replicas))], 0, s, all[rng.Intn(len(all))])
			}
			r, o := replicas[0], replicas[1]
			want := span.Union(r.Keeper().Records(), o.Keeper().Records())
			r.Pull(o)
			expectRecords(t, "behind a pull", r, want...)
		}
		pulls := 0
		for quiet := 0; quiet < 200; pulls++ {
			i, k := rng.Intn(len(replicas)), rng.Intn(len(replicas))
			if i == k {
				continue
			}
			pulled, _ := replicas[i].Pull(replicas[k])
			quiet++
			if pulled.Records > 0 {
				quiet = 0
			}
		}
		for _, r := range replicas {
			expectRecords(t, fmt.Sprint("round ", round), r, all...)
			expectDiffers(t, fmt.Sprint("round ", round), r, replicas[0])
			if !slices.Equal(r.Digests(), replicas[0].Digests()) {
				t.Errorf("round %d: the digests differ", round)
			}
		}
	}
}

// model is a replica as the terms describe it, with a list of records for each partition.
type model struct {
	keeper   *retention.Keeper
	policy   retention.Policy
	versions map[int]int
	seen     map[[2]int]int
}

// of returns the records of a partition.
func (m *model) of(partition int) []api.Span {
	return slices.DeleteFunc(m.keeper.Records(), func(s api.Span) bool { return span.Partition(s.Trace) != partition })
}

// do does something, and counts the partitions that it changes.
func (m *model) do(f func()) {
	before := map[int][]api.Span{}
	for p := range 6 {
		before[p] = m.of(p)
	}
	f()
	for p := range 6 {
		if !slices.EqualFunc(before[p], m.of(p), span.Equal) {
			m.versions[p]++
		}
	}
}

// pull does what the terms say, record by record.
func (m *model) pull(name int, o *model) replica.Pulled {
	var pulled replica.Pulled
	m.do(func() {
		for p := range 6 {
			if o.versions[p] <= m.seen[[2]int{name, p}] {
				continue
			}
			m.seen[[2]int{name, p}] = o.versions[p]
			pulled.Asked++
			size := len(m.of(p))
			for _, s := range o.of(p) {
				if m.keeper.Has(s.Trace) || retention.Tier(m.policy, m.keeper.Now(), p) == retention.TierFull {
					m.keeper.Add([]api.Span{s})
				}
			}
			if more := len(m.of(p)) - size; more > 0 {
				pulled.Copied++
				pulled.Records += more
			}
		}
	})
	return pulled
}

// P34.2 to P34.7: random replicas with different policies, compared with models.
func TestModel(t *testing.T) {
	rng := rand.New(rand.NewSource(35))
	for range 40 {
		var replicas []*replica.Replica
		var models []*model
		for name := range 3 {
			p := halving(rng.Intn(3), 2+rng.Intn(3))
			replicas = append(replicas, made(t, name+1, p))
			k, _ := retention.New(p)
			models = append(models, &model{k, p, map[int]int{}, map[[2]int]int{}})
		}
		for range 60 {
			i, k := rng.Intn(3), rng.Intn(3)
			r, m := replicas[i], models[i]
			switch choice := rng.Intn(10); {
			case choice < 5:
				var l []api.Span
				for range rng.Intn(4) {
					l = append(l, revised(record(at(rng.Intn(6), 1+rng.Intn(4)), 1+rng.Intn(3)), rng.Intn(2)))
				}
				got, e := r.Add(l)
				m.do(func() {
					if want, _ := m.keeper.Add(l); got != want || e != api.OK {
						t.Errorf("Add: %d, %d; want %d", got, e, want)
					}
				})
			case choice < 6:
				slot := m.keeper.Now() + rng.Intn(20)
				got, e := r.Apply(slot)
				m.do(func() {
					if want, _ := m.keeper.Apply(slot); got != want || e != api.OK {
						t.Errorf("Apply: %d, %d; want %d", got, e, want)
					}
				})
			case i != k:
				removed, late := r.Keeper().Removed(), r.Keeper().Late()
				want := m.pull(k+1, models[k])
				expectPulled(t, "the model", r, replicas[k], want.Asked, want.Copied, want.Records)
				if !slices.Equal(r.Keeper().Removed(), removed) || !slices.Equal(r.Keeper().Late(), late) {
					t.Error("a pull has changed what was removed or late")
				}
			}
			expectRecords(t, "the model", r, m.keeper.Records()...)
			if !r.Keeper().Equal(m.keeper) {
				t.Error("the keepers differ")
			}
			var pairs []int
			for p := range 6 {
				if m.versions[p] > 0 {
					pairs = append(pairs, p, m.versions[p])
				}
			}
			expectVector(t, "the model", r, pairs...)
		}
	}
}

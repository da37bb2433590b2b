package attribute_test

import (
	"fmt"
	"math"
	"math/rand"
	"slices"
	"testing"

	"sleuth/api"
	"sleuth/attribute"
)

var yes api.Pred

func not(p api.Pred) api.Pred { return api.Pred{Op: api.PredNot, Args: []api.Pred{p}} }

func and(l ...api.Pred) api.Pred { return api.Pred{Op: api.PredAnd, Args: l} }

func or(l ...api.Pred) api.Pred { return api.Pred{Op: api.PredOr, Args: l} }

func has(key string) api.Pred { return api.Pred{Op: api.PredHas, Key: key} }

// test returns a test of a field, or of an attribute if the name begins with an @.
func test(op int, name string, v api.Value) api.Pred {
	if name != "" && name[0] == '@' {
		return api.Pred{Op: op, Field: "attr", Key: name[1:], Value: v}
	}
	return api.Pred{Op: op, Field: name, Value: v}
}

func equal(name string, v api.Value) api.Pred { return test(api.PredEqual, name, v) }

func less(name string, v api.Value) api.Pred { return test(api.PredLess, name, v) }

func prefix(name, s string) api.Pred { return test(api.PredPrefix, name, text(s)) }

// nested returns a predicate below so many negations.
func nested(levels int, p api.Pred) api.Pred {
	for range levels {
		p = not(p)
	}
	return p
}

// times returns a predicate so many times.
func times(size int, p api.Pred) []api.Pred { return slices.Repeat([]api.Pred{p}, size) }

var someNames = []string{"a", "b", "@a", "@b"}

// someValue returns one of few values.
func someValue(random *rand.Rand) api.Value {
	return []api.Value{
		text(""), text("a"), text("ab"), text("b"), text("ba"), text("a\"\\"),
		number(-1), number(0), number(1), number(2), truth(0), truth(1),
	}[random.Intn(12)]
}

// someTest returns a test.
func someTest(random *rand.Rand) api.Pred {
	name, v := someNames[random.Intn(len(someNames))], someValue(random)
	switch {
	case random.Intn(5) == 0:
		return has([]string{"a", "b"}[random.Intn(2)])
	case v.Kind == api.KindBool || random.Intn(3) == 0:
		return equal(name, v)
	case v.Kind == api.KindString && random.Intn(2) == 0:
		return prefix(name, v.Text)
	}
	return less(name, v)
}

// somePredicate returns a predicate with at most so many levels.
func somePredicate(random *rand.Rand, levels int) api.Pred {
	if levels == 1 || random.Intn(4) == 0 {
		if random.Intn(6) == 0 {
			return yes
		}
		return someTest(random)
	}
	if random.Intn(3) == 0 {
		return not(somePredicate(random, levels-1))
	}
	var l []api.Pred
	for range 1 + random.Intn(3) {
		l = append(l, somePredicate(random, levels-1))
	}
	return []func(l ...api.Pred) api.Pred{and, or}[random.Intn(2)](l...)
}

// someRecord returns a source that has some of the fields that predicates test.
func someRecord(random *rand.Rand) attribute.Record {
	var r attribute.Record
	for _, name := range someNames {
		switch a := (api.Attr{Key: name, Value: someValue(random)}); {
		case random.Intn(3) == 0:
		case name[0] == '@':
			a.Key = name[1:]
			r.Attrs = append(r.Attrs, a)
		default:
			r.Fields = append(r.Fields, a)
		}
	}
	return r
}

// copied returns a copy that shares no lists.
func copied(p api.Pred) api.Pred {
	var args []api.Pred
	for _, arg := range p.Args {
		args = append(args, copied(arg))
	}
	p.Args = args
	return p
}

// spoil changes all that the lists of a predicate contain.
func spoil(p api.Pred) {
	for k := range p.Args {
		spoil(p.Args[k])
		p.Args[k] = api.Pred{Op: 99}
	}
}

// P10.4: Check, and in particular the order of its errors.
func TestCheck(t *testing.T) {
	valid := equal("service", text("api"))
	strange := api.Pred{Op: 8}
	for _, c := range []struct {
		p api.Pred
		e api.Errno
	}{
		{yes, api.OK},
		{and(yes), api.OK},
		{or(valid, valid, yes), api.OK},
		{not(valid), api.OK},
		{has("region"), api.OK},
		{valid, api.OK},
		{equal("error", truth(1)), api.OK},
		{equal("@error", number(1)), api.OK},
		{less("service", text("")), api.OK},
		{less("@n", number(-api.MaxTime)), api.OK},
		{prefix("service", ""), api.OK},
		{prefix("@service", "~ "), api.OK},
		{api.Pred{Args: []api.Pred{}}, api.OK},
		{api.Pred{Op: api.PredHas, Key: "a", Args: []api.Pred{}}, api.OK},
		// the operation
		{strange, api.ErrKind},
		{api.Pred{Op: -1}, api.ErrKind},
		{api.Pred{Op: math.MaxInt, Field: " ", Args: times(2, yes)}, api.ErrKind},
		{api.Pred{Op: math.MinInt}, api.ErrKind},
		// the number of arguments
		{api.Pred{Args: times(1, yes)}, api.ErrForm},
		{and(), api.ErrForm},
		{or(), api.ErrForm},
		{api.Pred{Op: api.PredAnd, Args: []api.Pred{}}, api.ErrForm},
		{api.Pred{Op: api.PredNot}, api.ErrForm},
		{api.Pred{Op: api.PredNot, Args: times(2, yes)}, api.ErrForm},
		{api.Pred{Op: api.PredHas, Key: "a", Args: times(1, yes)}, api.ErrForm},
		{api.Pred{Op: api.PredEqual, Field: "a", Value: text(""), Args: times(1, yes)}, api.ErrForm},
		{api.Pred{Op: api.PredLess, Field: "a", Value: text(""), Args: times(1, yes)}, api.ErrForm},
		{api.Pred{Op: api.PredPrefix, Field: "", Value: text(""), Args: times(1, strange)}, api.ErrForm},
		// fields that the operation does not have
		{api.Pred{Field: "a"}, api.ErrForm},
		{api.Pred{Key: "a"}, api.ErrForm},
		{api.Pred{Value: api.Value{Int: 1}}, api.ErrForm},
		{api.Pred{Value: api.Value{Text: "a"}}, api.ErrForm},
		{api.Pred{Op: api.PredAnd, Field: "a", Args: times(1, yes)}, api.ErrForm},
		{api.Pred{Op: api.PredAnd, Key: "a", Args: times(1, yes)}, api.ErrForm},
		{api.Pred{Op: api.PredOr, Key: "a", Args: times(1, yes)}, api.ErrForm},
		{api.Pred{Op: api.PredOr, Value: number(0), Args: times(1, yes)}, api.ErrForm},
		{api.Pred{Op: api.PredNot, Field: "a", Args: times(1, yes)}, api.ErrForm},
		{api.Pred{Op: api.PredNot, Key: "a", Args: times(1, yes)}, api.ErrForm},
		{api.Pred{Op: api.PredNot, Value: truth(0), Args: times(1, strange)}, api.ErrForm},
		{api.Pred{Op: api.PredHas, Field: "attr", Key: "a"}, api.ErrForm},
		{api.Pred{Op: api.PredHas, Key: "a", Value: text("")}, api.ErrForm},
		{api.Pred{Op: api.PredHas, Field: "attr"}, api.ErrForm},
		// names
		{has(""), api.ErrName},
		{has("a b"), api.ErrName},
		{has(x(api.MaxName + 1)), api.ErrName},
		{equal("", text("")), api.ErrName},
		{equal("a b", text("")), api.ErrName},
		{less(x(api.MaxName+1), text("")), api.ErrName},
		{equal("@", text("")), api.ErrName},
		{prefix("@a b", ""), api.ErrName},
		{prefix("@"+x(api.MaxName), ""), api.OK},
		{prefix("@"+x(api.MaxName+1), ""), api.ErrName},
		{api.Pred{Op: api.PredEqual, Field: "a", Key: "b", Value: text("")}, api.ErrName},
		{api.Pred{Op: api.PredLess, Field: "a", Key: "b"}, api.ErrName},
		{api.Pred{Op: api.PredPrefix, Key: "b", Value: text("")}, api.ErrName},
		// values
		{equal("a", api.Value{}), api.ErrKind},
		{less("a", api.Value{Kind: 4}), api.ErrKind},
		{equal("a", text(x(api.MaxText+1))), api.ErrLong},
		{prefix("a", x(api.MaxText+1)), api.ErrLong},
		{prefix("a", "\n"), api.ErrForm},
		{equal("a", truth(2)), api.ErrForm},
		{less("a", truth(2)), api.ErrForm},
		{less("a", truth(1)), api.ErrType},
		{test(api.PredPrefix, "a", number(1)), api.ErrType},
		{test(api.PredPrefix, "a", truth(1)), api.ErrType},
		{test(api.PredPrefix, "a", number(api.MaxTime+1)), api.ErrForm},
		// the first node in preorder
		{and(or(valid, strange), has("")), api.ErrKind},
		{and(or(valid, has("")), strange), api.ErrName},
		{or(and(not(less("a", truth(1))), strange), strange), api.ErrType},
		{api.Pred{Op: api.PredAnd, Key: "a", Args: times(1, strange)}, api.ErrForm},
		{and(yes, yes, not(not(and()))), api.ErrForm},
		// many nodes and levels
		{and(times(attribute.MaxNodes-1, valid)...), api.OK},
		{and(times(attribute.MaxNodes, valid)...), api.ErrLimit},
		{and(append(times(attribute.MaxNodes-1, valid), strange)...), api.ErrLimit},
		{and(append(times(attribute.MaxNodes-2, valid), strange, valid)...), api.ErrKind},
		{or(and(times(31, yes)...), and(times(30, yes)...)), api.OK},
		{or(and(times(31, yes)...), and(times(31, yes)...)), api.ErrLimit},
		{or(and(times(61, yes)...), not(strange)), api.ErrLimit},
		{nested(api.MaxDepth-1, valid), api.OK},
		{nested(api.MaxDepth, valid), api.ErrDepth},
		{nested(api.MaxDepth, strange), api.ErrDepth},
		{nested(api.MaxDepth-1, strange), api.ErrKind},
		{nested(api.MaxDepth-1, and(strange, valid)), api.ErrDepth},
		{and(nested(api.MaxDepth-2, valid), strange), api.ErrKind},
		{and(nested(api.MaxDepth-1, valid), strange), api.ErrDepth},
		{and(append(times(47, yes), nested(api.MaxDepth-1, strange))...), api.ErrDepth},
		{and(append(times(48, yes), nested(api.MaxDepth-1, strange))...), api.ErrLimit},
		{nested(1000, yes), api.ErrDepth},
		{and(times(100_000, yes)...), api.ErrLimit},
	} {
		expectErr(t, fmt.Sprintf("Check(%.150v)", fmt.Sprint(c.p)), attribute.Check(c.p), c.e)
	}
}

// P10.4: Check accepts what is made for the other tests.
func TestCheckMany(t *testing.T) {
	random := rand.New(rand.NewSource(2))
	for range 1000 {
		p := somePredicate(random, 4)
		expectErr(t, fmt.Sprint("Check of ", p), attribute.Check(p), api.OK)
	}
}

// P10.4: Size.
func TestSize(t *testing.T) {
	for _, c := range []struct {
		p    api.Pred
		want int
	}{
		{yes, 1},
		{has("a"), 1},
		{not(yes), 2},
		{and(), 1},
		{and(or(yes, yes), not(has("a"))), 6},
		{api.Pred{Op: 99, Args: times(3, not(yes))}, 7},
		{and(times(5000, yes)...), 5001},
		{nested(5000, yes), 5001},
	} {
		if n := attribute.Size(c.p); n != c.want {
			t.Errorf("Size: %d, want %d", n, c.want)
		}
	}
}

// P10.4: Fields.
func TestFields(t *testing.T) {
	for _, c := range []struct {
		p    api.Pred
		want []api.Column
	}{
		{yes, nil},
		{not(and(yes, yes)), nil},
		{has("k"), []api.Column{{Field: "attr", Key: "k"}}},
		{equal("service", text("")), []api.Column{{Field: "service"}}},
		{and(prefix("zone", ""), less("@k", number(1)), not(has("k")), equal("@j", truth(1)), or(equal("alpha", text("")), less("zone", number(1)))), []api.Column{
			{Field: "alpha"}, {Field: "attr", Key: "j"}, {Field: "attr", Key: "k"}, {Field: "zone"},
		}},
		{or(has("b"), has("a"), has("b"), equal("attr.a", text("")), equal("at", text(""))), []api.Column{
			{Field: "at"}, {Field: "attr", Key: "a"}, {Field: "attr", Key: "b"}, {Field: "attr.a"},
		}},
	} {
		if l := attribute.Fields(c.p); !slices.Equal(l, c.want) {
			t.Errorf("Fields(%v): %v, want %v", c.p, l, c.want)
		}
	}
}

// P10.5: tests. The tests of each line are told apart by whether a value satisfies them.
func TestHoldsTests(t *testing.T) {
	for _, c := range []struct {
		v    api.Value
		p    func(name string) api.Pred
		want bool
	}{
		{text("api"), func(name string) api.Pred { return equal(name, text("api")) }, true},
		{text("api"), func(name string) api.Pred { return equal(name, text("ap")) }, false},
		{text("1"), func(name string) api.Pred { return equal(name, number(1)) }, false},
		{number(1), func(name string) api.Pred { return equal(name, number(1)) }, true},
		{number(1), func(name string) api.Pred { return equal(name, number(2)) }, false},
		{number(1), func(name string) api.Pred { return equal(name, truth(1)) }, false},
		{truth(1), func(name string) api.Pred { return equal(name, truth(1)) }, true},
		{truth(0), func(name string) api.Pred { return equal(name, truth(1)) }, false},
		{number(4), func(name string) api.Pred { return less(name, number(5)) }, true},
		{number(5), func(name string) api.Pred { return less(name, number(5)) }, false},
		{number(6), func(name string) api.Pred { return less(name, number(5)) }, false},
		{number(-9), func(name string) api.Pred { return less(name, text("z")) }, false},
		{text("a"), func(name string) api.Pred { return less(name, number(5)) }, false},
		{text("a"), func(name string) api.Pred { return less(name, text("b")) }, true},
		{text("B"), func(name string) api.Pred { return less(name, text("a")) }, true},
		{text(""), func(name string) api.Pred { return less(name, text("")) }, false},
		{text("ab"), func(name string) api.Pred { return less(name, text("a")) }, false},
		{text("a"), func(name string) api.Pred { return less(name, text("ab")) }, true},
		{text("api"), func(name string) api.Pred { return prefix(name, "ap") }, true},
		{text("api"), func(name string) api.Pred { return prefix(name, "api") }, true},
		{text("api"), func(name string) api.Pred { return prefix(name, "apis") }, false},
		{text("api"), func(name string) api.Pred { return prefix(name, "pi") }, false},
		{text("api"), func(name string) api.Pred { return prefix(name, "") }, true},
		{number(1), func(name string) api.Pred { return prefix(name, "") }, false},
		{truth(0), func(name string) api.Pred { return less(name, number(1)) }, false},
	} {
		r := attribute.Record{Fields: []api.Attr{{Key: "f", Value: c.v}}, Attrs: []api.Attr{{Key: "k", Value: c.v}}}
		for _, name := range []string{"f", "@k"} {
			p := c.p(name)
			if attribute.Holds(p, r) != c.want || attribute.Holds(not(p), r) == c.want {
				t.Errorf("Holds(%v) of %v is not %v", p, c.v, c.want)
			}
		}
		for _, name := range []string{"g", "@f", "k", "attr"} {
			p := c.p(name)
			if attribute.Holds(p, r) || !attribute.Holds(not(p), r) {
				t.Errorf("Holds(%v) of a source without the field", p)
			}
		}
	}
}

// P10.5: the other operations, with Example 3 of the document.
func TestHolds(t *testing.T) {
	r := attribute.Record{Fields: attrs("service", text("api")), Attrs: attrs("region", text("eu"))}
	holds, fails := equal("service", text("api")), equal("service", text("web"))
	for _, c := range []struct {
		p    api.Pred
		want bool
	}{
		{yes, true},
		{not(yes), false},
		{has("region"), true},
		{has("service"), false},
		{has("attr"), false},
		{not(less("duration", number(5))), true},
		{not(holds), false},
		{not(fails), true},
		{not(not(holds)), true},
		{and(holds), true},
		{and(fails), false},
		{or(holds), true},
		{or(fails), false},
		{and(holds, yes), true},
		{and(holds, fails), false},
		{and(fails, holds), false},
		{and(fails, fails), false},
		{or(holds, yes), true},
		{or(holds, fails), true},
		{or(fails, holds), true},
		{or(fails, fails), false},
		{and(holds, holds, fails), false},
		{or(fails, fails, holds), true},
		{and(or(fails, holds), not(and(holds, fails))), true},
		{or(and(fails, holds), not(or(holds, fails))), false},
	} {
		if attribute.Holds(c.p, r) != c.want {
			t.Errorf("Holds(%v) is not %v", c.p, c.want)
		}
	}
}

// question is a source that keeps what it was asked for.
type question struct{ fields *[]api.Column }

func (q question) Value(field, key string) (api.Value, bool) {
	*q.fields = append(*q.fields, api.Column{Field: field, Key: key})
	return api.Value{}, true
}

// P10.5: for what a source is asked, and that it is any source.
func TestHoldsAsks(t *testing.T) {
	for _, c := range []struct {
		p    api.Pred
		want api.Column
	}{
		{has("k"), api.Column{Field: "attr", Key: "k"}},
		{equal("service", text("")), api.Column{Field: "service"}},
		{less("@k", number(1)), api.Column{Field: "attr", Key: "k"}},
		{prefix("@k", ""), api.Column{Field: "attr", Key: "k"}},
	} {
		var asked []api.Column
		attribute.Holds(c.p, question{&asked})
		if len(asked) == 0 || slices.ContainsFunc(asked, func(a api.Column) bool { return a != c.want }) {
			t.Errorf("Holds(%v) asks for %v", c.p, asked)
		}
	}
}

// P10.6: Compare and Equal.
func TestCompare(t *testing.T) {
	l := []api.Pred{
		{Op: math.MinInt, Field: "z"},
		{Op: -1},
		yes,
		{Args: times(1, yes)},
		{Value: text("")},
		{Key: "a"},
		{Field: "a"},
		and(),
		and(yes),
		and(not(yes)),
		and(has("a")),
		and(yes, yes),
		and(yes, or(yes)),
		and(or(yes), yes),
		and(yes, yes, yes),
		or(yes, has("a")),
		or(yes, has("b")),
		or(has("a"), has("a")),
		not(yes),
		not(not(has("a"))),
		not(not(has("b"))),
		not(has("a")),
		has("a"),
		has("b"),
		equal("@a", text("z")),
		equal("@b", text("a")),
		equal("b", text("a")),
		equal("b", text("b")),
		equal("b", number(0)),
		equal("b", number(1)),
		equal("c", text("")),
		less("a", number(1)),
		prefix("a", ""),
		prefix("a", "a"),
		{Op: 8},
	}
	expectIncreasing(t, "Compare", l, attribute.Compare)
	for i, p := range l {
		for j, q := range l {
			if attribute.Equal(p, q) != (i == j) {
				t.Errorf("Equal(%v, %v) is %v", p, q, i != j)
			}
		}
	}
	if attribute.Compare(api.Pred{Args: []api.Pred{}}, yes) != 0 || !attribute.Equal(yes, api.Pred{Args: []api.Pred{}}) {
		t.Error("nil and empty lists differ")
	}
}

// P10.6 and P10.8: Negate, and a source satisfies a predicate exactly if it does not satisfy the negation.
func TestNegate(t *testing.T) {
	for _, c := range []struct{ p, want api.Pred }{
		{yes, not(yes)},
		{not(yes), yes},
		{has("a"), not(has("a"))},
		{not(not(has("a"))), not(has("a"))},
		{and(yes, has("a")), not(and(yes, has("a")))},
		{not(or(yes, has("a"))), or(yes, has("a"))},
	} {
		if n := attribute.Negate(c.p); !attribute.Equal(n, c.want) {
			t.Errorf("Negate(%v): %v", c.p, n)
		}
	}
	random := rand.New(rand.NewSource(3))
	for range 1000 {
		p := somePredicate(random, 4)
		given := copied(p)
		n, r := attribute.Negate(p), someRecord(random)
		if attribute.Holds(p, r) == attribute.Holds(n, r) {
			t.Errorf("%v satisfies %v and its negation, or neither", r, p)
		}
		spoil(n)
		if !attribute.Equal(p, given) {
			t.Fatalf("Negate(%v) shares something with it", given)
		}
	}
}

// P10.7.
func TestPrint(t *testing.T) {
	for _, c := range []struct {
		p    api.Pred
		want string
	}{
		{yes, `true`},
		{not(yes), `not true`},
		{not(not(yes)), `not not true`},
		{has("region"), `has region`},
		{not(has("region")), `not has region`},
		{equal("service", text("api")), `service = "api"`},
		{equal("@region", text("")), `attr.region = ""`},
		{equal("attr.region", text(`a"b\c`)), `attr.region = "a\"b\\c"`},
		{equal("a", text(`\"`)), `a = "\\\""`},
		{equal("a", text(` ~'`)), `a = " ~'"`},
		{less("duration", number(-5)), `duration < -5`},
		{less("service", text("b")), `service < "b"`},
		{equal("n", number(0)), `n = 0`},
		{equal("n", number(api.MaxTime)), `n = 1099511627776`},
		{equal("error", truth(1)), `error = true`},
		{equal("@error", truth(0)), `attr.error = false`},
		{prefix("service", "a"), `service prefix "a"`},
		{prefix("@x", "a"), `attr.x prefix "a"`},
		{and(yes), `true`},
		{and(yes, has("a"), not(yes)), `true and has a and not true`},
		{or(yes, has("a"), not(yes)), `true or has a or not true`},
		{and(and(yes), or(yes)), `(true) and (true)`},
		{or(and(yes, has("a")), or(yes, has("b")), yes), `(true and has a) or (true or has b) or true`},
		{not(and(yes, has("a"))), `not (true and has a)`},
		{not(or(yes)), `not (true)`},
		{not(not(or(yes, yes))), `not not (true or true)`},
		{and(or(and(has("a"), has("b")), has("c")), has("d")), `((has a and has b) or has c) and has d`},
	} {
		if s := attribute.Print(c.p); s != c.want {
			t.Errorf("Print: %s; want %s", s, c.want)
		}
	}
}

// failing is a source that panics.
type failing struct{}

func (failing) Value(field, key string) (api.Value, bool) { panic(field + key) }

// P1: predicates that are not valid, and sources that are missing or fail, do no harm.
func TestGarbage(t *testing.T) {
	var missing *attribute.Record
	strange := []api.Pred{
		{Op: api.PredNot},
		{Op: api.PredNot, Args: times(2, yes)},
		{Op: 99, Args: times(2, not(yes))},
		{Op: -1, Field: "attr", Args: times(1, api.Pred{Op: math.MinInt})},
		{Op: api.PredHas, Field: "attr", Key: "a", Value: number(1), Args: times(1, yes)},
		{Op: api.PredEqual, Field: "attr", Key: "", Value: api.Value{Kind: 7, Text: "\xff", Int: math.MinInt}},
		{Op: api.PredPrefix, Value: truth(9)},
		{Op: api.PredLess, Field: "a", Value: truth(1)},
		and(), or(), not(and()), not(or()), and(or(), and()),
		not(api.Pred{Op: api.PredNot}),
		not(api.Pred{Op: 99}),
		nested(30_000, has("a")),
		and(times(30_000, has("a"))...),
	}
	for range 5 {
		strange = append(strange, and(strange[:10]...), or(strange[5:12]...))
	}
	for _, p := range strange {
		attribute.Check(p)
		attribute.Size(p)
		attribute.Fields(p)
		for _, s := range []attribute.Source{nil, missing, failing{}, attribute.Record{}, attribute.Record{Attrs: attrs("a", number(1))}} {
			attribute.Holds(p, s)
		}
		attribute.Negate(p)
		attribute.Normal(p)
		attribute.Print(p)
		for _, q := range strange[8:14] {
			attribute.Compare(p, q)
			attribute.Equal(p, q)
			attribute.Implies(p, q)
		}
	}
	for _, l := range [][]api.Attr{attrs("b", number(1), "a", number(2), "b", number(3)), numbered(100), make([]api.Attr, 3)} {
		for _, key := range []string{"", "a", "b", x(100)} {
			attribute.Get(l, key)
			attribute.With(l, key, number(1))
			attribute.Without(l, key)
			attribute.Record{Fields: l, Attrs: l}.Value(key, key)
		}
	}
}

// P10.5 and P1: a source that is missing has no fields, and one that fails satisfies nothing.
func TestHoldsWithoutSource(t *testing.T) {
	for _, p := range []api.Pred{has("a"), equal("a", number(1)), not(has("a"))} {
		if attribute.Holds(p, failing{}) {
			t.Errorf("a source that fails satisfies %v", p)
		}
	}
	if attribute.Holds(has("a"), nil) || !attribute.Holds(not(has("a")), nil) || !attribute.Holds(yes, nil) {
		t.Error("a missing source has a field")
	}
}

package attribute_test

import (
	"fmt"
	"math/rand"
	"slices"
	"testing"

	"sleuth/api"
	"sleuth/attribute"
)

// nots returns the negations of predicates.
func nots(l []api.Pred) []api.Pred {
	var negated []api.Pred
	for _, p := range l {
		negated = append(negated, not(p))
	}
	return negated
}

// rewritten returns a predicate to which the first rule that fits is applied: at the node itself, and if none fits there, below it.
func rewritten(p api.Pred) (api.Pred, bool) {
	if p.Op == api.PredNot {
		switch arg := p.Args[0]; arg.Op {
		case api.PredNot:
			return arg.Args[0], true
		case api.PredAnd:
			return or(nots(arg.Args)...), true
		case api.PredOr:
			return and(nots(arg.Args)...), true
		}
	}
	if p.Op == api.PredAnd || p.Op == api.PredOr {
		if q, isRewritten := rewrittenList(p); isRewritten {
			return q, true
		}
	}
	for k, arg := range p.Args {
		if q, isRewritten := rewritten(arg); isRewritten {
			args := slices.Clone(p.Args)
			args[k] = q
			p.Args = args
			return p, true
		}
	}
	return p, false
}

// rewrittenList does this for the arguments of PredAnd and PredOr.
func rewrittenList(p api.Pred) (api.Pred, bool) {
	neutral, decisive := yes, not(yes)
	if p.Op == api.PredOr {
		neutral, decisive = decisive, neutral
	}
	if len(p.Args) == 0 {
		return neutral, true
	}
	if len(p.Args) == 1 {
		return p.Args[0], true
	}
	for k, arg := range p.Args {
		rest := slices.Delete(slices.Clone(p.Args), k, k+1)
		switch {
		case attribute.Equal(arg, decisive):
			return decisive, true
		case attribute.Equal(arg, neutral):
			return api.Pred{Op: p.Op, Args: rest}, true
		case arg.Op == p.Op:
			return api.Pred{Op: p.Op, Args: append(rest, arg.Args...)}, true
		case k == 0:
		case attribute.Compare(p.Args[k-1], arg) == 0:
			return api.Pred{Op: p.Op, Args: rest}, true
		case attribute.Compare(p.Args[k-1], arg) > 0:
			args := slices.Clone(p.Args)
			args[k-1], args[k] = args[k], args[k-1]
			return api.Pred{Op: p.Op, Args: args}, true
		}
	}
	return p, false
}

// P10.6: Normal, with Example 1 of the document.
func TestNormal(t *testing.T) {
	a, b, c := has("a"), has("b"), has("c")
	error, service := equal("error", truth(1)), equal("service", text("a"))
	for _, c := range []struct{ p, want api.Pred }{
		{not(and(service, not(error))), or(not(service), error)},
		{yes, yes},
		{a, a},
		{service, service},
		{not(yes), not(yes)},
		{not(not(yes)), yes},
		{not(a), not(a)},
		{nested(4, a), a},
		{nested(5, a), not(a)},
		{and(a), a},
		{or(a), a},
		{and(yes), yes},
		{or(yes), yes},
		{and(not(yes)), not(yes)},
		{or(not(yes)), not(yes)},
		{and(yes, yes), yes},
		{or(not(yes), not(yes)), not(yes)},
		{and(a, yes), a},
		{and(a, not(yes)), not(yes)},
		{or(a, yes), yes},
		{or(a, not(yes)), a},
		{and(a, a), a},
		{or(a, a, a), a},
		{and(b, a), and(a, b)},
		{and(b, c, a, b, yes, c), and(a, b, c)},
		{and(b, and(c, and(a, b))), and(a, b, c)},
		{or(or(c, b), a), or(a, b, c)},
		{and(c, or(b, a)), and(or(a, b), c)},
		{and(a, not(a)), and(not(a), a)},
		{or(a, not(a)), or(not(a), a)},
		{not(and(a, b)), or(not(a), not(b))},
		{not(or(b, not(a))), and(not(b), a)},
		{not(and(a, not(or(b, not(c))))), or(not(a), not(c), b)},
		{and(or(a, not(yes)), b), and(a, b)},
		{and(or(a, yes), b), b},
		{or(and(a, and(not(yes), b)), c), c},
		{and(or(a, a), or(a), and(a)), a},
		{or(and(b, a), and(a, b)), and(a, b)},
		{not(and(yes, yes)), not(yes)},
		{not(or(a, yes)), not(yes)},
	} {
		if n := attribute.Normal(c.p); !attribute.Equal(n, c.want) {
			t.Errorf("Normal of %s: %s; want %s", attribute.Print(c.p), attribute.Print(n), attribute.Print(c.want))
		}
	}
	if s := attribute.Print(attribute.Normal(not(and(service, not(error))))); s != `not service = "a" or error = true` {
		t.Errorf("Print: %s", s)
	}
}

// P10.6 and P10.8: the normal form of many predicates; a source satisfies it exactly if it satisfies the predicate, and it is its own normal form.
func TestNormalOfMany(t *testing.T) {
	random := rand.New(rand.NewSource(4))
	for range 3000 {
		p := somePredicate(random, 5)
		given := copied(p)
		n := attribute.Normal(p)
		want := p
		for isRewritten := true; isRewritten; {
			want, isRewritten = rewritten(want)
		}
		if !attribute.Equal(n, want) {
			t.Errorf("Normal of %s: %s; want %s", attribute.Print(p), attribute.Print(n), attribute.Print(want))
		}
		if again := attribute.Normal(n); !attribute.Equal(again, n) || attribute.Print(again) != attribute.Print(n) {
			t.Errorf("Normal of %s: %s", attribute.Print(n), attribute.Print(again))
		}
		for range 5 {
			if r := someRecord(random); attribute.Holds(p, r) != attribute.Holds(n, r) {
				t.Errorf("%v satisfies one of %s and %s only", r, attribute.Print(p), attribute.Print(n))
			}
		}
		spoil(n)
		if !attribute.Equal(p, given) {
			t.Fatalf("Normal of %s shares something with it", attribute.Print(given))
		}
	}
}

// P10.6, Rules: the lists of the results are new, even where they are empty.
func TestEmptyLists(t *testing.T) {
	list := []api.Pred{has("a"), has("b")}
	leaf := api.Pred{Op: api.PredHas, Key: "a", Args: list[:0]}
	for _, p := range []api.Pred{attribute.Normal(leaf), attribute.Normal(not(leaf)).Args[0], attribute.Negate(leaf).Args[0], attribute.Negate(not(leaf))} {
		_ = append(p.Args, yes)
	}
	if !attribute.Equal(list[0], has("a")) {
		t.Error("a list is shared")
	}
}

// P10.6: more nodes and levels than Check permits.
func TestNormalOfLarge(t *testing.T) {
	a, b := has("a"), has("b")
	p := and(a, b)
	for range 500 {
		p = not(or(p, not(a)))
	}
	want := p
	for isRewritten := true; isRewritten; {
		want, isRewritten = rewritten(want)
	}
	if n := attribute.Normal(p); !attribute.Equal(n, want) {
		t.Errorf("Normal: %s; want %s", attribute.Print(n), attribute.Print(want))
	}
	if n := attribute.Normal(and(times(10_000, or(b, a))...)); !attribute.Equal(n, or(a, b)) {
		t.Errorf("Normal: %s", attribute.Print(n))
	}
}

// implication is two predicates, and whether it can be seen that the first one implies the second one.
type implication struct {
	p, q api.Pred
	want bool
}

func expectImplications(t *testing.T, l []implication) {
	t.Helper()
	for _, c := range l {
		if attribute.Implies(c.p, c.q) != c.want {
			t.Errorf("Implies of %s, %s is not %v", attribute.Print(c.p), attribute.Print(c.q), c.want)
		}
	}
}

// P10.6: tests that imply one another, with Example 2 of the document.
func TestImpliesTests(t *testing.T) {
	api2 := equal("service", text("api"))
	expectImplications(t, []implication{
		{api2, api2, true},
		{api2, prefix("service", "a"), true},
		{api2, prefix("service", "api"), true},
		{api2, prefix("service", ""), true},
		{api2, prefix("service", "apis"), false},
		{api2, prefix("servic", "a"), false},
		{api2, less("service", text("b")), true},
		{api2, less("service", text("api")), false},
		{api2, less("service", text("a")), false},
		{api2, less("service", number(5)), false},
		{api2, equal("service", text("ap")), false},
		{api2, equal("service", number(0)), false},
		{prefix("service", "api"), api2, false},
		{equal("n", number(4)), less("n", number(5)), true},
		{equal("n", number(5)), less("n", number(5)), false},
		{equal("n", truth(0)), less("n", number(5)), false},
		{less("n", number(4)), less("n", number(5)), true},
		{less("n", number(5)), less("n", number(5)), true},
		{less("n", number(5)), less("n", number(4)), false},
		{less("n", number(4)), less("m", number(5)), false},
		{less("@n", number(4)), less("@m", number(5)), false},
		{less("@n", number(4)), less("@n", number(5)), true},
		{less("n", text("a")), less("n", text("b")), true},
		{less("n", text("z")), less("n", number(5)), false},
		{less("n", number(5)), less("n", number(5)), true},
		{less("n", text("")), equal("n", text("a")), false},
		{less("n", text("b")), prefix("n", "a"), false},
		{less("n", text("b")), prefix("n", ""), false},
		{prefix("n", "ab"), prefix("n", "a"), true},
		{prefix("n", "a"), prefix("n", "ab"), false},
		{prefix("n", "a"), prefix("m", "a"), false},
		{prefix("n", "a"), less("n", text("b")), false},
		{equal("@region", text("eu")), has("region"), true},
		{less("@region", text("eu")), has("region"), true},
		{prefix("@region", "eu"), has("region"), true},
		{prefix("@region", "eu"), has("zone"), false},
		{equal("region", text("eu")), has("region"), false},
		{has("region"), has("region"), true},
		{has("region"), has("zone"), false},
		{has("region"), equal("@region", text("eu")), false},
		{has("region"), prefix("@region", ""), false},
	})
}

// P10.6: tests that exclude one another, with Example 2 of the document.
func TestExcludes(t *testing.T) {
	for _, c := range []struct {
		p, q api.Pred
		want bool
	}{
		{equal("service", text("api")), less("service", text("a")), true},
		{equal("service", text("api")), less("service", text("api")), true},
		{equal("service", text("api")), less("service", text("b")), false},
		{equal("service", text("api")), less("servic", text("a")), false},
		{equal("@service", text("api")), less("@servic", text("a")), false},
		{equal("@a", text("api")), less("@a", text("a")), true},
		{equal("a", number(1)), less("a", text("z")), true},
		{equal("a", number(1)), equal("a", number(2)), true},
		{equal("a", number(1)), equal("a", truth(1)), true},
		{equal("a", number(1)), equal("a", number(1)), false},
		{equal("a", text("b")), prefix("a", "bc"), true},
		{equal("a", text("bc")), prefix("a", "b"), false},
		{equal("a", truth(1)), prefix("a", ""), true},
		{equal("@a", truth(1)), has("a"), false},
		{less("a", number(1)), less("a", number(9)), false},
		{less("a", number(1)), less("a", text("")), true},
		{less("a", number(1)), prefix("a", ""), true},
		{less("a", text("b")), prefix("a", "b"), true},
		{less("a", text("b")), prefix("a", "bc"), true},
		{less("a", text("bc")), prefix("a", "b"), false},
		{less("a", text("b")), prefix("a", "a"), false},
		{less("a", text("b")), prefix("b", "c"), false},
		{prefix("a", "b"), prefix("a", "c"), true},
		{prefix("a", "ba"), prefix("a", "bc"), true},
		{prefix("a", "b"), prefix("a", "bc"), false},
		{prefix("a", "b"), prefix("a", "b"), false},
		{prefix("a", ""), prefix("a", "b"), false},
		{prefix("a", "b"), prefix("b", "c"), false},
		{has("a"), has("a"), false},
		{has("a"), has("b"), false},
		{has("a"), prefix("a", ""), false},
	} {
		expectImplications(t, []implication{{c.p, not(c.q), c.want}, {c.q, not(c.p), c.want}})
	}
}

// P10.6: the other operations.
func TestImplies(t *testing.T) {
	a, b, c, d := has("a"), has("b"), has("c"), has("d")
	low, high := less("n", number(4)), less("n", number(5))
	expectImplications(t, []implication{
		{yes, yes, true},
		{a, yes, true},
		{yes, a, false},
		{not(yes), a, true},
		{not(yes), not(yes), true},
		{a, not(yes), false},
		{yes, not(yes), false},
		{not(a), not(yes), false},
		{not(yes), and(a, b), true},
		{or(a, b), yes, true},
		{not(a), not(a), true},
		{not(a), not(b), false},
		{not(high), not(low), true},
		{not(low), not(high), false},
		{not(a), a, false},
		{a, not(a), false},
		{not(a), b, false},
		{not(equal("n", number(1))), less("n", number(0)), false},
		{and(a, b), a, true},
		{and(a, b), b, true},
		{and(a, b), c, false},
		{and(a, b), and(b, a), true},
		{and(a, b, c), and(a, c), true},
		{and(a, c), and(a, b, c), false},
		{a, or(a, b), true},
		{b, or(a, b), true},
		{c, or(a, b), false},
		{or(a, b), a, false},
		{or(a, b), or(b, a), true},
		{or(a, c), or(c, b, a), true},
		{or(a, b, c), or(a, c), false},
		{and(a, b), or(a, b), true},
		{and(a, b), or(c, b), true},
		{and(a, b), or(c, d), false},
		{or(a, b), and(a, b), false},
		{or(low, equal("n", number(4))), high, true},
		{or(low, equal("n", number(5))), high, false},
		{or(and(a, c), and(b, c)), c, true},
		{or(and(a, c), and(b, c)), and(c, or(a, b)), true},
		{and(c, or(a, b)), or(and(a, c), and(b, c)), false}, // it holds, but cannot be seen
		{and(a, low), and(high, or(a, b)), true},
		{and(a, low), and(high, b), false},
		{a, or(b, not(b)), false}, // likewise
		{and(b, not(b)), a, false},
		{not(and(a, b)), or(not(a), not(b)), true},
		{not(or(a, b)), not(a), true},
		{not(a), not(and(a, b)), true},
		{not(not(a)), a, true},
		{or(a, not(yes)), a, true},
		{and(or(a, b), c), or(a, b), true},
		{and(or(a, b), c), or(or(b, d), a), true},
		{and(or(a, b), or(c, d)), or(a, d), false},
		{or(and(a, b), c), and(or(a, c), or(b, c)), true},
		{or(a, b), or(and(a, a), and(b, yes)), true},
	})
}

// P10.8: what satisfies a predicate satisfies all that it implies, and each predicate implies itself.
func TestImpliesOfMany(t *testing.T) {
	random := rand.New(rand.NewSource(5))
	seen := 0
	for range 20_000 {
		p, q := somePredicate(random, 1+random.Intn(4)), somePredicate(random, 1+random.Intn(4))
		if !attribute.Implies(p, p) || !attribute.Implies(attribute.Normal(p), p) {
			t.Errorf("%s does not imply itself", attribute.Print(p))
		}
		if !attribute.Implies(p, q) {
			continue
		}
		seen++
		for range 20 {
			if r := someRecord(random); attribute.Holds(p, r) && !attribute.Holds(q, r) {
				t.Errorf("%s does not imply %s: %v", attribute.Print(p), attribute.Print(q), r)
			}
		}
	}
	if seen < 1000 {
		t.Errorf("%d implications make this test a weak one", seen)
	}
}

// P10.6: there are many ways through large predicates.
func TestImpliesOfLarge(t *testing.T) {
	chain := func(size int, last api.Pred) api.Pred {
		p := last
		for n := range size {
			p = and(has(fmt.Sprint("a", n%7)), or(has(fmt.Sprint("b", n%7)), p))
		}
		return p
	}
	expectImplications(t, []implication{
		{chain(150, has("x")), chain(150, has("x")), true},
		{chain(150, has("x")), chain(150, has("y")), false},
		{chain(150, and(has("x"), has("y"))), chain(150, has("y")), true},
		{nested(2000, has("x")), nested(1000, or(has("x"), has("y"))), true},
		{and(has("x"), or(times(20_000, has("z"))...)), or(has("y"), and(times(20_000, has("z"))...)), true},
	})
}

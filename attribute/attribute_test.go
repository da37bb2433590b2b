package attribute_test

import (
	"fmt"
	"math"
	"math/rand"
	"slices"
	"strings"
	"testing"

	"sleuth/api"
	"sleuth/attribute"
)

// x returns a string of so many bytes.
func x(size int) string { return strings.Repeat("x", size) }

func text(s string) api.Value { return api.Value{Kind: api.KindString, Text: s} }

func number(n int) api.Value { return api.Value{Kind: api.KindInt, Int: n} }

func truth(n int) api.Value { return api.Value{Kind: api.KindBool, Int: n} }

// attrs returns attributes with keys and their values.
func attrs(l ...any) []api.Attr {
	var a []api.Attr
	for k := 0; k < len(l); k += 2 {
		a = append(a, api.Attr{Key: l[k].(string), Value: l[k+1].(api.Value)})
	}
	return a
}

// numbered returns so many attributes whose keys have a beginning in common.
func numbered(size int) []api.Attr {
	var a []api.Attr
	for n := range size {
		a = append(a, api.Attr{Key: fmt.Sprintf("k%02d", n), Value: number(n)})
	}
	return a
}

func expectErr(t *testing.T, what string, got, want api.Errno) {
	t.Helper()
	if got != want {
		t.Errorf("%s: %d, want %d", what, got, want)
	}
}

func expectAttrs(t *testing.T, what string, got []api.Attr, e api.Errno, want []api.Attr, wantErr api.Errno) {
	t.Helper()
	if !slices.Equal(got, want) || e != wantErr {
		t.Errorf("%s: %v, %d; want %v, %d", what, got, e, want, wantErr)
	}
}

func expectValue(t *testing.T, what string, got api.Value, isFound bool, want api.Value, wantFound bool) {
	t.Helper()
	if got != want || isFound != wantFound {
		t.Errorf("%s: %v, %v; want %v, %v", what, got, isFound, want, wantFound)
	}
}

// The limits that the document names, and the name of the field for attributes.
func TestConstants(t *testing.T) {
	if attribute.MaxNodes != 64 || attribute.FieldAttr != "attr" {
		t.Error("a constant is wrong")
	}
}

// P10.1: IsName, for all bytes.
func TestIsName(t *testing.T) {
	for s, want := range map[string]bool{
		"":                     false,
		x(api.MaxName):         true,
		x(api.MaxName + 1):     false,
		x(api.MaxName) + " ":   false,
		"a b":                  false,
		"a ":                   false,
		" a":                   false,
		"service.name/2":       true,
		"\"\\":                 true,
		"\u00e9":               false,
		x(api.MaxName-1) + " ": false,
	} {
		if attribute.IsName(s) != want {
			t.Errorf("IsName(%q) is not %v", s, want)
		}
	}
	for b := range 256 {
		for _, s := range []string{string([]byte{byte(b)}), string([]byte{'a', byte(b)}), string([]byte{byte(b), 'a'})} {
			if want := 33 <= b && b <= 126; attribute.IsName(s) != want {
				t.Errorf("IsName(%q) is not %v", s, want)
			}
		}
	}
}

// P10.1: CheckValue.
func TestCheckValue(t *testing.T) {
	for _, c := range []struct {
		v api.Value
		e api.Errno
	}{
		{text(""), api.OK},
		{text(" ~"), api.OK},
		{text(x(api.MaxText)), api.OK},
		{text(x(api.MaxText + 1)), api.ErrLong},
		{text(x(api.MaxText) + "\n"), api.ErrLong},
		{text("\x1f"), api.ErrForm},
		{text("\x7f"), api.ErrForm},
		{text("a\x80"), api.ErrForm},
		{text("\xff"), api.ErrForm},
		{api.Value{Kind: api.KindString, Text: "a", Int: 1}, api.ErrForm},
		{api.Value{Kind: api.KindString, Int: -1}, api.ErrForm},
		{number(0), api.OK},
		{number(api.MaxTime), api.OK},
		{number(-api.MaxTime), api.OK},
		{number(api.MaxTime + 1), api.ErrForm},
		{number(-api.MaxTime - 1), api.ErrForm},
		{number(math.MinInt), api.ErrForm},
		{api.Value{Kind: api.KindInt, Text: "1", Int: 1}, api.ErrForm},
		{api.Value{Kind: api.KindInt, Text: x(api.MaxText)}, api.ErrForm},
		{api.Value{Kind: api.KindInt, Text: x(api.MaxText + 1)}, api.ErrLong},
		{truth(0), api.OK},
		{truth(1), api.OK},
		{truth(2), api.ErrForm},
		{truth(-1), api.ErrForm},
		{api.Value{Kind: api.KindBool, Text: "true", Int: 1}, api.ErrForm},
		{api.Value{Kind: api.KindBool, Text: x(api.MaxText + 1), Int: 7}, api.ErrLong},
		{api.Value{}, api.ErrKind},
		{api.Value{Kind: 4}, api.ErrKind},
		{api.Value{Kind: -1}, api.ErrKind},
		{api.Value{Kind: math.MaxInt, Text: x(api.MaxText + 1)}, api.ErrKind},
	} {
		expectErr(t, fmt.Sprintf("CheckValue(%d, %.20q, %d)", c.v.Kind, c.v.Text, c.v.Int), attribute.CheckValue(c.v), c.e)
	}
	for b := range 256 {
		want := api.ErrForm
		if 32 <= b && b <= 126 {
			want = api.OK
		}
		expectErr(t, fmt.Sprint("CheckValue of the byte ", b), attribute.CheckValue(text(string([]byte{'a', byte(b), 'a'}))), want)
	}
}

// P10.1: CheckAttrs.
func TestCheckAttrs(t *testing.T) {
	for _, c := range []struct {
		l []api.Attr
		e api.Errno
	}{
		{nil, api.OK},
		{[]api.Attr{}, api.OK},
		{attrs("b", text("1"), "ba", number(-1), "c", truth(1)), api.OK},
		{numbered(api.MaxAttrs), api.OK},
		{numbered(api.MaxAttrs + 1), api.ErrLimit},
		{make([]api.Attr, api.MaxAttrs+1), api.ErrLimit},
		{make([]api.Attr, api.MaxAttrs), api.ErrName},
		{attrs("", text("")), api.ErrName},
		{attrs("a b", text("")), api.ErrName},
		{attrs(x(api.MaxName), text("")), api.OK},
		{attrs(x(api.MaxName+1), text("")), api.ErrName},
		{attrs("b", text(""), " a", text("\n")), api.ErrName},
		{attrs("a", text(""), "a", text("")), api.ErrOrder},
		{attrs("b", text(""), "a", text("\n")), api.ErrOrder},
		{attrs("b", text("\n"), "a", text("")), api.ErrForm},
		{attrs("a", api.Value{}, "", text("")), api.ErrKind},
		{attrs("a", text(x(api.MaxText+1))), api.ErrLong},
		{attrs("a", text(""), "b", text(""), "ab", text("")), api.ErrOrder},
		{attrs("a", text(""), "b", truth(2)), api.ErrForm},
	} {
		expectErr(t, fmt.Sprintf("CheckAttrs(%.80v)", fmt.Sprint(c.l)), attribute.CheckAttrs(c.l), c.e)
	}
}

// expectIncreasing compares each element of a list with each.
func expectIncreasing[T any](t *testing.T, what string, l []T, compare func(a, b T) int) {
	t.Helper()
	for i, a := range l {
		for j, b := range l {
			want := 0
			if i < j {
				want = -1
			} else if i > j {
				want = 1
			}
			if got := compare(a, b); got != want {
				t.Errorf("%s(%v, %v): %d", what, a, b, got)
			}
		}
	}
}

// P10.1: CompareValues and CompareAttrs, of values and lists that are not valid, too.
func TestCompareValues(t *testing.T) {
	expectIncreasing(t, "CompareValues", []api.Value{
		{Kind: math.MinInt, Text: "z", Int: 9},
		{Kind: -1},
		{},
		{Int: 5},
		{Text: "a", Int: 1},
		text(""),
		{Kind: api.KindString, Int: 1},
		text("B"),
		text("a"),
		text("aa"),
		text("b"),
		text("\xff"),
		number(math.MinInt),
		number(-1),
		number(0),
		number(math.MaxInt),
		{Kind: api.KindInt, Text: "a", Int: -7},
		truth(0),
		truth(1),
		{Kind: math.MaxInt},
	}, attribute.CompareValues)
	expectIncreasing(t, "CompareAttrs", [][]api.Attr{
		nil,
		attrs("", api.Value{}),
		attrs("a", text("x")),
		attrs("a", text("x"), "a", text("")),
		attrs("a", text("x"), "b", text("")),
		attrs("a", text("y")),
		attrs("a", number(0), "b", text("")),
		attrs("aa", text("x")),
		attrs("b", text("")),
		attrs("b", text(""), "a", text("")),
		attrs("b", text(""), "c", text("")),
	}, attribute.CompareAttrs)
	if attribute.CompareAttrs(nil, []api.Attr{}) != 0 {
		t.Error("CompareAttrs: nil and empty lists differ")
	}
}

// P10.2.
func TestAttributes(t *testing.T) {
	l := attrs("b", number(1), "d", text("x"), "e", truth(1))
	given := slices.Clone(l)
	for key, want := range map[string]api.Value{"b": number(1), "d": text("x"), "e": truth(1)} {
		v, isFound := attribute.Get(l, key)
		expectValue(t, "Get of "+key, v, isFound, want, true)
	}
	for _, key := range []string{"", "a", "c", "f", "bb"} {
		v, isFound := attribute.Get(l, key)
		expectValue(t, "Get of "+key, v, isFound, api.Value{}, false)
		expectAttrs(t, "Without "+key, attribute.Without(l, key), 0, l, 0)
	}
	for _, c := range []struct {
		l    []api.Attr
		key  string
		v    api.Value
		want []api.Attr
		e    api.Errno
	}{
		{nil, "a", number(7), attrs("a", number(7)), api.OK},
		{l, "a", number(7), attrs("a", number(7), "b", number(1), "d", text("x"), "e", truth(1)), api.OK},
		{l, "c", number(7), attrs("b", number(1), "c", number(7), "d", text("x"), "e", truth(1)), api.OK},
		{l, "f", number(7), attrs("b", number(1), "d", text("x"), "e", truth(1), "f", number(7)), api.OK},
		{l, "b", text("y"), attrs("b", text("y"), "d", text("x"), "e", truth(1)), api.OK},
		{l, "d", text("y"), attrs("b", number(1), "d", text("y"), "e", truth(1)), api.OK},
		{l, "e", truth(1), l, api.OK},
		{l, "", number(7), nil, api.ErrName},
		{l, "a b", api.Value{}, nil, api.ErrName},
		{l, x(api.MaxName + 1), number(7), nil, api.ErrName},
		{l, "a", api.Value{}, nil, api.ErrKind},
		{l, "b", number(api.MaxTime + 1), nil, api.ErrForm},
		{l, "b", text(x(api.MaxText + 1)), nil, api.ErrLong},
		{numbered(api.MaxAttrs), "a", number(7), nil, api.ErrLimit},
		{numbered(api.MaxAttrs), "", number(7), nil, api.ErrName},
		{numbered(api.MaxAttrs), "a", truth(7), nil, api.ErrForm},
		{numbered(api.MaxAttrs), "k00", number(0), numbered(api.MaxAttrs), api.OK},
		{numbered(api.MaxAttrs - 1), fmt.Sprintf("k%02d", api.MaxAttrs-1), number(api.MaxAttrs - 1), numbered(api.MaxAttrs), api.OK},
	} {
		got, e := attribute.With(c.l, c.key, c.v)
		expectAttrs(t, fmt.Sprintf("With %.80q", c.key), got, e, c.want, c.e)
	}
	expectAttrs(t, "Without b", attribute.Without(l, "b"), 0, attrs("d", text("x"), "e", truth(1)), 0)
	expectAttrs(t, "Without d", attribute.Without(l, "d"), 0, attrs("b", number(1), "e", truth(1)), 0)
	expectAttrs(t, "Without e", attribute.Without(l, "e"), 0, attrs("b", number(1), "d", text("x")), 0)
	expectAttrs(t, "Without", attribute.Without(nil, "e"), 0, nil, 0)
	if !slices.Equal(l, given) {
		t.Error("the argument was modified")
	}
}

// P10.2: attributes that are set and removed one after another are those of a map.
func TestAttributesOfMany(t *testing.T) {
	random := rand.New(rand.NewSource(1))
	for range 100 {
		var l []api.Attr
		want := map[string]api.Value{}
		for range 60 {
			key := fmt.Sprint("k", random.Intn(20))
			if random.Intn(3) == 0 {
				l = attribute.Without(l, key)
				delete(want, key)
			} else {
				v := number(random.Intn(5))
				l, _ = attribute.With(l, key, v)
				want[key] = v
			}
			expectErr(t, "CheckAttrs", attribute.CheckAttrs(l), api.OK)
			if len(l) != len(want) {
				t.Fatalf("%v instead of %v", l, want)
			}
			v, isFound := attribute.Get(l, key)
			expectValue(t, "Get", v, isFound, want[key], want[key] != api.Value{})
		}
		for key, v := range want {
			got, isFound := attribute.Get(l, key)
			expectValue(t, "Get", got, isFound, v, true)
		}
	}
}

// P10.2, Rules: results share nothing with arguments.
func TestAttributesIndependent(t *testing.T) {
	l := append(make([]api.Attr, 0, 8), attrs("b", number(1), "d", number(2))...)
	given := slices.Clone(l)
	with, _ := attribute.With(l, "a", number(0))
	same, _ := attribute.With(l, "b", number(1))
	for _, made := range [][]api.Attr{with, same, attribute.Without(l, "b"), attribute.Without(l, "c")} {
		clear(made)
		_ = append(made, api.Attr{})
	}
	expectAttrs(t, "the argument", l[:2], 0, given, 0)
	expectAttrs(t, "behind the argument", l[2:8], 0, make([]api.Attr, 6), 0)
}

// P10.3: the first element of a list counts.
func TestRecord(t *testing.T) {
	r := attribute.Record{
		Fields: attrs("service", text("api"), "duration", number(5), "service", text("web"), "attr", text("field"), "", truth(0)),
		Attrs:  attrs("region", text("eu"), "error", truth(1), "region", text("us"), "", number(9), "service", number(8)),
	}
	for _, c := range []struct {
		field, key string
		want       api.Value
		isFound    bool
	}{
		{"service", "", text("api"), true},
		{"duration", "", number(5), true},
		{"", "", truth(0), true},
		{"region", "", api.Value{}, false},
		{"service", "region", api.Value{}, false},
		{"service", "service", api.Value{}, false},
		{"duration", "x", api.Value{}, false},
		{"attr", "region", text("eu"), true},
		{"attr", "error", truth(1), true},
		{"attr", "service", number(8), true},
		{"attr", "", number(9), true},
		{"attr", "duration", api.Value{}, false},
		{"attr", "attr", api.Value{}, false},
		{"Service", "", api.Value{}, false},
	} {
		v, isFound := r.Value(c.field, c.key)
		expectValue(t, fmt.Sprintf("Value(%q, %q)", c.field, c.key), v, isFound, c.want, c.isFound)
	}
	v, isFound := attribute.Record{}.Value("attr", "")
	expectValue(t, "Value", v, isFound, api.Value{}, false)
	v, isFound = attribute.Record{}.Value("", "")
	expectValue(t, "Value", v, isFound, api.Value{}, false)
}

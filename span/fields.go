package span

import (
	"maps"
	"slices"

	"sleuth/api"
	"sleuth/attribute"
)

// View is a span as a source of fields.
type View struct{ Span api.Span }

// table contains how to find the values of fields, by their names.
type table map[string]func(v View) api.Value

// fields returns the table of all fields.
func fields() table {
	return table{
		"clock":     View.clock,
		"duration":  View.duration,
		"end":       View.end,
		"error":     View.failed,
		"id":        View.id,
		"kind":      View.kind,
		"operation": View.operation,
		"parent":    View.parent,
		"revision":  View.revision,
		"root":      View.root,
		"service":   View.service,
		"slot":      View.slot,
		"start":     View.start,
		"trace":     View.trace,
		"version":   View.version,
	}
}

func (v View) clock() api.Value     { return number(v.Span.Clock) }
func (v View) duration() api.Value  { return number(Duration(v.Span)) }
func (v View) end() api.Value       { return number(v.Span.End) }
func (v View) failed() api.Value    { return truth(v.Span.Error) }
func (v View) id() api.Value        { return number(v.Span.Id) }
func (v View) operation() api.Value { return text(v.Span.Operation) }
func (v View) parent() api.Value    { return number(v.Span.Parent) }
func (v View) revision() api.Value  { return number(v.Span.Revision) }
func (v View) root() api.Value      { return truth(v.Span.Parent == 0) }
func (v View) service() api.Value   { return text(v.Span.Service) }
func (v View) slot() api.Value      { return number(Slot(v.Span.Trace)) }
func (v View) start() api.Value     { return number(v.Span.Start) }
func (v View) trace() api.Value     { return number(v.Span.Trace) }
func (v View) version() api.Value   { return text(v.Span.Version) }

func (v View) kind() api.Value {
	name, _ := KindName(v.Span.Kind)
	return text(name)
}

func number(n int) api.Value { return api.Value{Kind: api.KindInt, Int: n} }

func text(s string) api.Value { return api.Value{Kind: api.KindString, Text: s} }

func truth(b bool) api.Value { return api.Value{Kind: api.KindBool, Int: bit(b)} }

// Fields returns the names of all fields.
func Fields() []string { return slices.Sorted(maps.Keys(fields())) }

// FieldKind returns the kind of the values of a field.
func FieldKind(field string) (int, bool) {
	find, isField := fields()[field]
	if !isField {
		return 0, false
	}
	// The values of a field have the same kind for all spans.
	return find(View{}).Kind, true
}

// Value returns the value of a field, or of an attribute.
func (v View) Value(field, key string) (api.Value, bool) {
	return source{v, fields()}.Value(field, key)
}

// source is a view with the table of the fields, so that the table is not made for each value.
type source struct {
	view   View
	fields table
}

// Value returns the value of a field, or of an attribute.
func (s source) Value(field, key string) (api.Value, bool) {
	if field == attribute.FieldAttr {
		return attribute.Get(s.view.Span.Attrs, key)
	}
	find, isField := s.fields[field]
	if !isField || key != "" {
		return api.Value{}, false
	}
	return find(s.view), true
}

// Holds reports whether a span satisfies a predicate.
func Holds(p api.Pred, s api.Span) bool { return attribute.Holds(p, source{View{s}, fields()}) }

// Filter returns the spans that satisfy a predicate.
func Filter(p api.Pred, l []api.Span) []api.Span {
	all := fields()
	return copies(chosen(l, func(s api.Span) bool { return attribute.Holds(p, source{View{s}, all}) }))
}

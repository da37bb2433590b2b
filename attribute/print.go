package attribute

import (
	"strconv"
	"strings"

	"sleuth/api"
)

// Print returns the text of a predicate.
func Print(p api.Pred) string {
	var b strings.Builder
	write(&b, p)
	return b.String()
}

// write writes the text of a predicate.
func write(b *strings.Builder, p api.Pred) {
	switch p.Op {
	case api.PredTrue:
		b.WriteString("true")
	case api.PredAnd:
		writeArgs(b, p.Args, " and ")
	case api.PredOr:
		writeArgs(b, p.Args, " or ")
	case api.PredNot:
		b.WriteString("not ")
		writeArgs(b, p.Args, "")
	case api.PredHas:
		b.WriteString("has " + p.Key)
	default:
		writeTest(b, p)
	}
}

// writeArgs writes the texts of arguments with something between them.
func writeArgs(b *strings.Builder, args []api.Pred, between string) {
	for k, arg := range args {
		if k > 0 {
			b.WriteString(between)
		}
		if arg.Op == api.PredAnd || arg.Op == api.PredOr {
			b.WriteString("(")
			write(b, arg)
			b.WriteString(")")
		} else {
			write(b, arg)
		}
	}
}

// writeTest writes the text of a test of a field.
func writeTest(b *strings.Builder, p api.Pred) {
	b.WriteString(p.Field)
	if p.Field == FieldAttr {
		b.WriteString("." + p.Key)
	}
	switch p.Op {
	case api.PredLess:
		b.WriteString(" < ")
	case api.PredPrefix:
		b.WriteString(" prefix ")
	default:
		b.WriteString(" = ")
	}
	b.WriteString(printValue(p.Value))
}

// printValue returns the text of a value.
func printValue(v api.Value) string {
	switch v.Kind {
	case api.KindString:
		escaped := strings.NewReplacer(`\`, `\\`, `"`, `\"`).Replace(v.Text)
		return `"` + escaped + `"`
	case api.KindInt:
		return strconv.Itoa(v.Int)
	}
	return strconv.FormatBool(v.Int == 1)
}

package message

import (
	"slices"

	"sleuth/api"
	"sleuth/span"
)

// Of returns the messages of spans and exchanges.
func Of(spans []api.Span, exchanges []api.Exchange) []api.Message {
	winners := span.Winners(spans)
	byRef := map[api.Ref]api.Span{}
	for _, s := range winners {
		byRef[span.RefOf(s)] = s
	}
	var l []api.Message
	for _, s := range winners {
		parent, hasParent := byRef[api.Ref{Trace: s.Trace, Id: s.Parent}]
		if hasParent && s.Parent != 0 && s.Parent != s.Id {
			l = append(l, calls(parent, s)...)
		}
		for _, r := range s.Links {
			linked, isThere := byRef[r]
			if isThere && r != span.RefOf(s) {
				l = append(l, between(api.MessageLink, linked, s, false))
			}
		}
	}
	for _, x := range exchanges {
		l = append(l, exchanged(x))
	}
	return Set(l)
}

// calls returns the request of a parent to its child, and the response if there is one.
func calls(parent, child api.Span) []api.Message {
	l := []api.Message{between(api.MessageRequest, parent, child, false)}
	// A client with an error may have ceased to wait.
	if child.Kind == api.Server && parent.Kind == api.Client && !parent.Error {
		l = append(l, between(api.MessageResponse, child, parent, true))
	}
	return l
}

// between returns the message from one span to another one, from start to start, or from end to end.
func between(kind int, a, b api.Span, isEnd bool) api.Message {
	return api.Message{
		Kind:     kind,
		A:        span.RefOf(a),
		B:        span.RefOf(b),
		From:     a.Clock,
		To:       b.Clock,
		Sent:     span.At(a, isEnd),
		Received: span.At(b, isEnd),
	}
}

// exchanged returns the message of an exchange.
func exchanged(x api.Exchange) api.Message {
	return api.Message{
		Kind:     api.MessageExchange,
		From:     x.From,
		To:       x.To,
		Sent:     x.Sent,
		Received: x.Received,
		Least:    x.Least,
	}
}

// Contains reports whether a message is one of those of spans and exchanges.
func Contains(spans []api.Span, exchanges []api.Exchange, m api.Message) bool {
	return slices.Contains(Of(spans, exchanges), m)
}

package store

import (
	"sleuth/api"
	"sleuth/encoding"
	"sleuth/wal"
)

// The kinds of operations.
const (
	ingestion   = 1
	application = 2
)

// operation is the ingestion of a fragment, or the application of a slot.
type operation struct {
	kind     int
	fragment api.Fragment
	slot     int
}

// kind is how the operations of a kind are written and read, without their kind, and what they do.
type kind struct {
	write   func(o operation) string
	read    func(form string) (operation, api.Errno)
	perform func(c *contents, o operation) Summary
}

// kinds returns all kinds.
func kinds() map[int]kind {
	return map[int]kind{
		ingestion:   {writeFragment, readFragment, (*contents).ingest},
		application: {writeSlot, readSlot, (*contents).apply},
	}
}

func writeFragment(o operation) string { return encoding.EncodeFragment(o.fragment) }

func readFragment(form string) (operation, api.Errno) {
	f, e := encoding.DecodeFragment(form)
	return operation{kind: ingestion, fragment: f}, e
}

func writeSlot(o operation) string {
	var w encoding.Writer
	w.Number(o.slot)
	return w.Bytes()
}

func readSlot(form string) (operation, api.Errno) {
	r := encoding.NewReader(form)
	return operation{kind: application, slot: r.Number()}, r.End()
}

// record returns the record of the log for an operation.
func (o operation) record() string {
	var w encoding.Writer
	w.Number(o.kind)
	w.Text(kinds()[o.kind].write(o))
	return w.Bytes()
}

// readOperation returns the operation of a record.
func readOperation(record string) (operation, api.Errno) {
	r := encoding.NewReader(record)
	k, isKind := kinds()[r.Number()]
	form := r.Text(wal.MaxRecord)
	switch {
	case r.End() != api.OK:
		return operation{}, r.End()
	case !isKind:
		return operation{}, api.ErrKind
	}
	return k.read(form)
}

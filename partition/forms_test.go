package partition_test

import (
	"fmt"
	"math/rand"
	"strings"
	"testing"

	"sleuth/api"
	"sleuth/block"
	"sleuth/encoding"
	"sleuth/partition"
)

// encoded returns a form whose parts are given one after another.
func encoded(parts ...any) string {
	var w encoding.Writer
	for _, p := range parts {
		switch p := p.(type) {
		case int:
			w.Number(p)
		case bool:
			w.Bool(p)
		case string:
			w.Text(p)
		case *block.Block:
			w.Text(p.Encode())
		}
	}
	return w.Bytes()
}

// P31.8: the form of a partition.
func TestEncode(t *testing.T) {
	a, b, c := record(0, 1), record(0, 2), record(1, 1)
	p := made(t, []api.Span{b, c}, []api.Span{a})
	if got, want := p.Encode(), encoded(3, false, 2, built(t, b, c), built(t, a)); got != want {
		t.Errorf("Encode: %x, want %x", got, want)
	}
	if got, want := sealed(p).Encode(), encoded(3, true, 2, built(t, b, c), built(t, a)); got != want {
		t.Errorf("Encode of a sealed partition: %x, want %x", got, want)
	}
	if got := made(t).Encode(); got != "\x81\x03\x80\x80" {
		t.Errorf("Encode of an empty partition: %x", got)
	}
}

// P31.8: what is decoded is what was encoded.
func TestDecode(t *testing.T) {
	rng := rand.New(rand.NewSource(8))
	last, _ := partition.New(partition.MaxNumber)
	zero, _ := partition.New(0)
	all := []*partition.Partition{made(t), sealed(made(t)), full(t), last, zero, made(t, numbered(500), numbered(600))}
	for round := range 30 {
		p := made(t)
		insertParts(t, rng, p, random(rng, round))
		all = append(all, p, sealed(p.Clone()))
	}
	for _, p := range all {
		form := p.Encode()
		o, e := partition.Decode(form)
		if e != api.OK || !o.Equal(p) || o.Encode() != form || len(o.Blocks()) != len(p.Blocks()) {
			t.Fatalf("Decode of the form of a partition of %d blocks: %d", len(p.Blocks()), e)
		}
	}
}

// P31.8: a record can be in several blocks of a form. It counts once.
func TestDecodeRepeated(t *testing.T) {
	a, b, c := record(0, 1), failed(record(0, 2)), record(1, 1)
	p, e := partition.Decode(encoded(3, false, 3, built(t, a, b), built(t, b, c), built(t, a, b)))
	expectErr(t, "Decode", e, api.OK)
	expectBlocks(t, "Decode", p, []api.Span{a, b}, []api.Span{b, c}, []api.Span{a, b})
	expectSpans(t, "Records", p.Records(), []api.Span{a, b, c})
	expectSpans(t, "Spans", p.Spans(), []api.Span{a, b, c})
	if p.Digest() != made(t, []api.Span{a, b, c}).Digest() || p.Count()[0] != (api.Removed{Partition: 3, Service: "api", Spans: 3, Errors: 1}) {
		t.Errorf("repeated records count more than once: %v", p.Count())
	}
	expectInserted(t, p, []api.Span{a, b, c}, 0)
	expectErr(t, "Replace", p.Replace(0, 2, built(t, a, b, c)), api.OK)
	expectBlocks(t, "Replace", p, []api.Span{a, b, c}, []api.Span{a, b})
}

// P31.8: each error of Decode, and which one comes first.
func TestDecodeErrors(t *testing.T) {
	a, other := record(0, 1), record(0, 2)
	other.Trace = behind
	before := a
	before.Trace = first - 1
	good, empty, foreign := built(t, a), built(t), built(t, a, other)
	many := encoded(3, false, 65) + strings.Repeat("\x80", 65)
	most := encoded(3, false, 64) + strings.Repeat("\x80", 64)
	for what, c := range map[string]struct {
		form string
		want api.Errno
	}{
		"nothing":                               {"", api.ErrTruncated},
		"no number":                             {"\x00", api.ErrForm},
		"a number with a leading zero":          {"\x82\x00\x03\x80\x80", api.ErrForm},
		"no bool":                               {encoded(3), api.ErrTruncated},
		"a bool 2":                              {encoded(3, 2, 0), api.ErrForm},
		"no number of blocks":                   {encoded(3, true), api.ErrTruncated},
		"a negative number of blocks":           {encoded(3, true, -1), api.ErrForm},
		"too many blocks":                       {many, api.ErrLimit},
		"too many blocks, all good":             {encoded(3, false, 65) + strings.Repeat(encoded(good), 65), api.ErrLimit},
		"as many blocks as possible, all wrong": {most, api.ErrForm},
		"blocks are missing":                    {encoded(3, true, 2, good), api.ErrTruncated},
		"more blocks than bytes":                {encoded(3, true, 2), api.ErrTruncated},
		"a long form":                           {encoded(3, true, 1, 1<<24+1), api.ErrLong},
		"a form that is as long as possible":    {encoded(3, true, 1, 1<<24), api.ErrTruncated},
		"a form of negative length":             {encoded(3, true, 1, -1), api.ErrForm},
		"bytes are left":                        {encoded(3, true, 1, good) + "\x80", api.ErrForm},
		"bytes are left behind no blocks":       {encoded(3, true, 0, good), api.ErrForm},
		"a number that is too great":            {encoded(partition.MaxNumber+1, false, 0), api.ErrRange},
		"a negative number":                     {encoded(-1, false, 0), api.ErrRange},
		"bytes are left, and the number":        {encoded(-1, false, 0, 0), api.ErrForm},
		"blocks are missing, and the number":    {encoded(-1, false, 1), api.ErrTruncated},
		"the number, and a wrong block":         {encoded(-1, false, 1, "x"), api.ErrRange},
		"a wrong block":                         {encoded(3, false, 2, good, "x"), api.ErrForm},
		"a block without a form":                {encoded(3, false, 1, ""), api.ErrForm},
		"an empty block":                        {encoded(3, false, 2, good, empty), api.ErrEmpty},
		"a trace of the partition behind":       {encoded(3, false, 1, foreign), api.ErrConflict},
		"a trace of the partition before":       {encoded(3, false, 1, built(t, before, a)), api.ErrConflict},
		"the number of another partition":       {encoded(4, false, 1, good), api.ErrConflict},
		"wrong before empty":                    {encoded(3, false, 3, "x", empty, foreign), api.ErrForm},
		"empty before wrong":                    {encoded(3, false, 3, empty, "x", foreign), api.ErrEmpty},
		"foreign before empty":                  {encoded(3, false, 3, foreign, empty, "x"), api.ErrConflict},
		"wrong, and bytes are left":             {encoded(3, false, 1, empty) + "x", api.ErrForm},
	} {
		p, e := partition.Decode(c.form)
		expectErr(t, what, e, c.want)
		if p != nil {
			t.Errorf("%s: a partition of %d blocks", what, len(p.Blocks()))
		}
	}
}

// P31.8: no proper beginning of a form is one, and no form with a further byte.
func TestDecodeLengths(t *testing.T) {
	form := sealed(made(t, numbered(2), []api.Span{record(1, 1)})).Encode()
	for size := range len(form) {
		p, e := partition.Decode(form[:size])
		expectErr(t, fmt.Sprintf("%d bytes of %d", size, len(form)), e, api.ErrTruncated)
		if p != nil {
			t.Errorf("%d bytes of %d: a partition", size, len(form))
		}
	}
	_, e := partition.Decode(form + "x")
	expectErr(t, "a further byte", e, api.ErrForm)
}

// P1: what is no form at all.
func TestDecodeGarbage(t *testing.T) {
	rng := rand.New(rand.NewSource(1))
	for range 500 {
		b := make([]byte, rng.Intn(100))
		rng.Read(b)
		if p, e := partition.Decode(string(b)); (p == nil) != (e != api.OK) {
			t.Errorf("Decode of %x: %v, %d", b, p, e)
		}
	}
}

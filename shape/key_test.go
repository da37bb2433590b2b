package shape_test

import (
	"fmt"
	"math/rand"
	"strings"
	"testing"

	"sleuth/api"
	"sleuth/encoding"
	"sleuth/shape"
)

// form returns the forms of strings and numbers one after another.
func form(parts ...any) string {
	var w encoding.Writer
	for _, part := range parts {
		switch p := part.(type) {
		case int:
			w.Number(p)
		case string:
			w.Text(p)
		}
	}
	return w.Bytes()
}

// key returns the key of a canonical shape.
func key(s shape.Shape) string {
	k := form(s.Service, s.Operation, len(s.Children))
	for _, child := range s.Children {
		k += key(child)
	}
	return k
}

func expectDecoded(t *testing.T, what, key string, want shape.Shape, wantErr api.Errno) {
	t.Helper()
	got, e := shape.Decode(key)
	expectErr(t, "Decode of "+what, e, wantErr)
	expectShape(t, "Decode of "+what, got, want)
}

// P20.4: the bytes of a key.
func TestKey(t *testing.T) {
	if got := shape.Key(shape.Shape{}); got != "\x80\x80\x80" {
		t.Errorf("Key of an empty shape: %x", got)
	}
	s := of("web/get", of("b/"), of("/c", of("")))
	if got := shape.Key(s); got != "\x81\x03web\x81\x03get\x81\x02"+"\x80\x81\x01c\x81\x01\x80\x80\x80"+"\x81\x01b\x80\x80" {
		t.Errorf("Key: %x", got)
	}
	long := shape.Shape{Service: strings.Repeat("x", api.MaxText+1)}
	if got := shape.Key(long); got != key(long) {
		t.Error("the key of a long name is wrong")
	}
}

// P20.4: keys are decoded; their beginnings are truncated, and a further byte is an error of form.
func TestDecodeInvertsKey(t *testing.T) {
	r := rand.New(rand.NewSource(21))
	for range 300 {
		s := someShape(r, 1+r.Intn(20))
		canonical := shape.Canonical(s)
		k := shape.Key(s)
		if k != key(canonical) {
			t.Errorf("Key of %v: %x", s, k)
		}
		expectDecoded(t, fmt.Sprintf("%x", k), k, canonical, api.OK)
		for size := range len(k) {
			expectDecoded(t, fmt.Sprintf("%x", k[:size]), k[:size], shape.Shape{}, api.ErrTruncated)
		}
		expectDecoded(t, "a key and a byte", k+"\x80", shape.Shape{}, api.ErrForm)
		expectDecoded(t, "a key and a byte that begins nothing", k+"\x00", shape.Shape{}, api.ErrForm)
		if wrong := key(s); wrong != k {
			expectDecoded(t, "another order", wrong, shape.Shape{}, api.ErrForm)
		}
	}
	expectDecoded(t, "children that are not in order", key(of("a/", of("c/"), of("b/"))), shape.Shape{}, api.ErrForm)
	expectDecoded(t, "children of children that are not in order", key(of("a/", of("b/", of("c/"), of("b/")))), shape.Shape{}, api.ErrForm)
}

// P20.4: the first error of reading, node by node.
func TestDecodeErrors(t *testing.T) {
	most, tooLong := strings.Repeat("x", api.MaxText), strings.Repeat("x", api.MaxText+1)
	full := shape.Shape{Service: most, Operation: most}
	expectDecoded(t, "long names", form(most, most, 0), full, api.OK)
	for _, c := range []struct {
		key string
		e   api.Errno
	}{
		{"", api.ErrTruncated},
		{form(tooLong, most, 0), api.ErrLong},
		{form(most, tooLong, 0), api.ErrLong},
		{form("a", "b", 1, most, tooLong, 0), api.ErrLong},
		{form(-1, "b", 0), api.ErrForm},
		{form("a", -1, 0), api.ErrForm},
		{form("a", "b", -1), api.ErrForm},
		{form("a", "b", shape.MaxNodes+1), api.ErrLimit},
		{form("a", "b", shape.MaxNodes), api.ErrTruncated},
		{form("a", "b", 1), api.ErrTruncated},
		{form("a", "b", 2, "a", "b", 0), api.ErrTruncated},
		{form("a", "b", 2, "b", tooLong, 0, "a", "b", -1), api.ErrLong},
		{form("a", "b", 2, "b", "b", 1, "a", "b", -1, tooLong), api.ErrForm},
		{form("a", "b", 2, "b", "b", 0, "a", "b", 0, "c"), api.ErrForm},
		{form("a", "b", 2, "b", "b", 0, "a", "b", 1), api.ErrTruncated},
		{"\x00", api.ErrForm},
		{"\x80\x00\x80", api.ErrForm},
		{"\x80\x80\xff", api.ErrForm},
		{"\x80\x80\x82\x00\x00", api.ErrForm},
	} {
		expectDecoded(t, fmt.Sprintf("%.40x", c.key), c.key, shape.Shape{}, c.e)
	}
}

// P20.4: too many nodes are found when one of them begins, neither earlier nor later.
func TestDecodeLimit(t *testing.T) {
	expectInt(t, "MaxNodes", shape.MaxNodes, 4096)
	leaf := form("", "", 0)
	wide := func(children int) string { return form("", "", children) }
	leaves := func(n int) string { return strings.Repeat(leaf, n) }
	var flat shape.Shape
	flat.Children = make([]shape.Shape, shape.MaxNodes-1)
	expectDecoded(t, "MaxNodes nodes", wide(4095)+leaves(4095), flat, api.OK)
	expectDecoded(t, "MaxNodes levels", shape.Key(chain(4096)), chain(4096), api.OK)
	for _, c := range []struct {
		key string
		e   api.Errno
	}{
		{wide(4096) + leaves(4096), api.ErrLimit},
		{wide(4096) + leaves(4095), api.ErrLimit},
		{wide(4096) + leaves(4095) + "\x00", api.ErrLimit},
		{wide(4096) + leaves(4094) + "\x80\x80\x00" + leaf, api.ErrForm},
		{wide(4096) + leaves(4094), api.ErrTruncated},
		{wide(4095) + leaves(4094) + wide(1) + leaf, api.ErrLimit},
		{wide(4095) + leaves(4094) + wide(1) + "\x00", api.ErrLimit},
		{wide(4095) + leaves(4094) + wide(1), api.ErrTruncated},
		{wide(4095) + leaves(4094) + wide(-1), api.ErrForm},
		{wide(4095) + leaves(4094) + wide(4097), api.ErrLimit},
		{shape.Key(chain(4097)), api.ErrLimit},
		{wide(2) + leaf + shape.Key(chain(4095)), api.ErrLimit},
		{wide(2) + shape.Key(chain(4095)) + leaf, api.ErrLimit},
		{wide(2) + shape.Key(chain(4095)) + "\x00", api.ErrLimit},
		{wide(2) + shape.Key(chain(4094)) + leaf, api.ErrForm},
	} {
		expectDecoded(t, fmt.Sprintf("%d bytes", len(c.key)), c.key, shape.Shape{}, c.e)
	}
	// What follows is not read: it would nest too deeply for the stack.
	expectDecoded(t, "a node below another one, again and again", strings.Repeat(wide(1), 10_000_000), shape.Shape{}, api.ErrLimit)
}

// P1 and P20.4: nothing panics, whatever the bytes are, and what is decoded has the key.
func TestDecodeGarbage(t *testing.T) {
	r := rand.New(rand.NewSource(22))
	accepted := 0
	for range 20000 {
		b := []byte(shape.Key(someShape(r, 1+r.Intn(6))))
		for range r.Intn(3) {
			b[r.Intn(len(b))] = byte(r.Intn(256))
		}
		s, e := shape.Decode(string(b))
		if e != api.OK {
			expectShape(t, "Decode with an error", s, shape.Shape{})
		} else if accepted++; key(s) != string(b) || !isCanonical(s) {
			t.Errorf("%x is decoded, but is no key", b)
		}
	}
	if accepted == 0 {
		t.Error("nothing was decoded, so nothing was tested")
	}
}

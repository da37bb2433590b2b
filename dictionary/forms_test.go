package dictionary_test

import (
	"fmt"
	"math/rand"
	"slices"
	"strings"
	"testing"

	"sleuth/api"
	"sleuth/dictionary"
)

// formOf computes the encoded form by the words of the document.
func formOf(d []string) string {
	form := string([]byte{byte(len(d) / 256), byte(len(d) % 256)})
	for code, s := range d {
		if code%16 == 0 {
			form += string([]byte{byte(len(s))}) + s
			continue
		}
		shared := len(s)
		for !strings.HasPrefix(d[code-1], s[:shared]) {
			shared--
		}
		form += string([]byte{byte(shared), byte(len(s) - shared)}) + s[shared:]
	}
	return form
}

// someDictionaries returns dictionaries of all sizes.
func someDictionaries() [][]string {
	random := rand.New(rand.NewSource(7))
	all := [][]string{
		nil, {""}, {"", "a"}, {"a"}, {x(longest)}, {x(longest - 1), x(longest)}, {"", x(longest)},
		{x(longest-1) + "a", x(longest-1) + "b"}, {x(longest), "y"}, {"a", "a\x00"},
		numbered(0, 15), numbered(0, 16), numbered(0, 17), numbered(0, 33), numbered(0, 255), numbered(0, 256), numbered(0, 257), numbered(0, most),
	}
	var growing []string
	for size := range longest + 1 {
		growing = append(growing, x(size))
	}
	all = append(all, growing)
	for range 300 {
		all = append(all, different(someStrings(random)))
	}
	return all
}

// P6.6 and P6.7.
func TestForms(t *testing.T) {
	for _, d := range someDictionaries() {
		want := formOf(d)
		form, e := dictionary.Encode(d)
		if form != want || e != api.OK {
			t.Errorf("Encode(%.100q): %q, %d", d, form, e)
		}
		if n := dictionary.Size(d); n != len(want) {
			t.Errorf("Size(%.100q): %d, want %d", d, n, len(want))
		}
		got, e := dictionary.Decode(want)
		expectStrings(t, "Decode", got, e, d, api.OK)
		for _, more := range []string{"\x00", "\x01x", want} {
			got, e = dictionary.Decode(want + more)
			expectStrings(t, "Decode of too many bytes", got, e, nil, api.ErrForm)
		}
		for size := 0; size < len(want); size += 1 + len(want)/500 {
			got, e = dictionary.Decode(want[:size])
			expectStrings(t, fmt.Sprintf("Decode of %d of %d bytes", size, len(want)), got, e, nil, api.ErrTruncated)
		}
	}
}

// P6.6: the error of Encode is that of Check.
func TestEncodeErrors(t *testing.T) {
	for _, c := range []struct {
		d []string
		e api.Errno
	}{
		{numbered(0, most+1), api.ErrLimit},
		{[]string{"a", x(longest + 1)}, api.ErrLong},
		{[]string{"b", "a"}, api.ErrOrder},
		{[]string{"a", "a"}, api.ErrOrder},
		{[]string{"b", "a", x(longest + 1)}, api.ErrOrder},
	} {
		if form, e := dictionary.Encode(c.d); form != "" || e != c.e {
			t.Errorf("Encode(%.100q): %q, %d; want %d", c.d, form, e, c.e)
		}
	}
}

// P6.6: each error of the first strings, and which one comes first.
func TestDecodeErrors(t *testing.T) {
	long := "\xff" + x(255)
	for _, c := range []struct {
		s    string
		want []string
		e    api.Errno
	}{
		{"", nil, api.ErrTruncated},
		{"\x00", nil, api.ErrTruncated},
		{"\xff", nil, api.ErrTruncated},
		{"\x00\x00", nil, api.OK},
		{"\x00\x00\x00", nil, api.ErrForm},
		{"\x10\x00", nil, api.ErrTruncated},
		{"\x10\x01", nil, api.ErrLimit},
		{"\x11\x00", nil, api.ErrLimit},
		{"\xff\xff", nil, api.ErrLimit},
		{"\x01\x00", nil, api.ErrTruncated},
		{"\x00\x01", nil, api.ErrTruncated},
		{"\x00\x01\x00", []string{""}, api.OK},
		{"\x00\x01\x02a", nil, api.ErrTruncated},
		{"\x00\x01\x02ab", []string{"ab"}, api.OK},
		{"\x00\x01\x02abc", nil, api.ErrForm},
		{"\x00\x01" + long, []string{x(255)}, api.OK},
		{"\x00\x02\x01a", nil, api.ErrTruncated},
		{"\x00\x02\x01a\x00", nil, api.ErrTruncated},
		{"\x00\x02\x01a\x00\x02b", nil, api.ErrTruncated},
		{"\x00\x02\x01a\x00\x02bb", []string{"a", "bb"}, api.OK},
		{"\x00\x02\x01a\x01\x01b", []string{"a", "ab"}, api.OK},
		{"\x00\x02\x00\x00\x01b", []string{"", "b"}, api.OK},
		// More bytes in common than the string before has.
		{"\x00\x02\x01a\x02\x01b", nil, api.ErrForm},
		{"\x00\x02\x01a\x02\x02b", nil, api.ErrTruncated},
		{"\x00\x02\x01a\x02", nil, api.ErrTruncated},
		{"\x00\x02\x00\x01\x00", nil, api.ErrForm},
		{"\x00\x02\x01b\x02" + long, nil, api.ErrForm},
		{"\x00\x02\x01b\xff\x00", nil, api.ErrForm},
		// Too long.
		{"\x00\x02\x01a\x01" + long, nil, api.ErrLong},
		{"\x00\x02\x01y\x00" + long, nil, api.ErrOrder},
		{"\x00\x02\x01y\x01" + long, nil, api.ErrLong},
		{"\x00\x02\x01a\x00" + long, []string{"a", x(255)}, api.OK},
		{"\x00\x02\x01a\x01\xfe" + x(254), []string{"a", "a" + x(254)}, api.OK},
		{"\x00\x02" + long + "\xff\xff" + x(255), nil, api.ErrLong},
		{"\x00\x02" + long + "\xff\x01x", nil, api.ErrLong},
		{"\x00\x02" + long + "\xff\x01", nil, api.ErrTruncated},
		{"\x00\x02" + long + "\xff\x00", nil, api.ErrOrder},
		// Not greater than the string before.
		{"\x00\x02\x01b\x00\x01a", nil, api.ErrOrder},
		{"\x00\x02\x01b\x00\x00", nil, api.ErrOrder},
		{"\x00\x02\x01b\x01\x00", nil, api.ErrOrder},
		{"\x00\x02\x01b\x00\x01b", nil, api.ErrOrder},
		{"\x00\x02\x00\x00\x00", nil, api.ErrOrder},
		{"\x00\x02\x02bb\x00\x02ba", nil, api.ErrOrder},
		// More bytes in common than is said.
		{"\x00\x02\x01b\x00\x02ba", nil, api.ErrForm},
		{"\x00\x02\x02bb\x01\x02bc", nil, api.ErrForm},
		{"\x00\x02\x02bb\x00\x02bc", nil, api.ErrForm},
		{"\x00\x02\x02bb\x01\x01c", []string{"bb", "bc"}, api.OK},
		// The first wrong string counts, and bytes that are left come at last.
		{"\x00\x03\x01b\x00\x01a\x05", nil, api.ErrOrder},
		{"\x00\x03\x01b\x00\x02ba\x00", nil, api.ErrForm},
		{"\x00\x03\x01b\x00\x01c\x00", nil, api.ErrTruncated},
		{"\x00\x03\x01b\x00\x01c\x05\x01a", nil, api.ErrForm},
		{"\x00\x02\x01b\x00\x01a\x05", nil, api.ErrOrder},
		{"\x00\x02\x01b\x00\x01c\x05", nil, api.ErrForm},
	} {
		d, e := dictionary.Decode(c.s)
		expectStrings(t, fmt.Sprintf("Decode(%.100q)", c.s), d, e, c.want, c.e)
	}
}

// P6.6: the first string of a group says nothing of bytes in common, but is greater than the string before.
func TestDecodeGroups(t *testing.T) {
	group := formOf(numbered(0, 16))[2:]
	for _, c := range []struct {
		next string
		e    api.Errno
	}{
		{"\x06000016", api.OK},
		{"\x07000015x", api.OK},
		{"\x01z", api.OK},
		{"\x06000015", api.ErrOrder},
		{"\x06000014", api.ErrOrder},
		{"\x00", api.ErrOrder},
		{"\x05\x0116", api.ErrTruncated},
		{"", api.ErrTruncated},
		{"\x06000016\x00", api.ErrForm},
	} {
		var want []string
		if c.e == api.OK {
			want = append(numbered(0, 16), c.next[1:])
		}
		d, e := dictionary.Decode("\x00\x11" + group + c.next)
		expectStrings(t, fmt.Sprintf("Decode of a group and %q", c.next), d, e, want, c.e)
	}
	d, e := dictionary.Decode("\x00\x12" + group + "\x06000016\x05\x017")
	expectStrings(t, "Decode of 18 strings", d, e, numbered(0, 18), api.OK)
	d, e = dictionary.Decode("\x00\x12" + group + "\x06000016\x06000017")
	expectStrings(t, "Decode of 18 strings", d, e, nil, api.ErrTruncated)
}

// P6.6 and P6.7: a form in which bytes are changed or missing, if it can be decoded at all, is the form of what is decoded.
func TestDecodedFormsAreCanonical(t *testing.T) {
	random := rand.New(rand.NewSource(8))
	accepted := 0
	for range 20000 {
		b := []byte(formOf(different(someStrings(random))))
		for range 1 + random.Intn(3) {
			b[1+random.Intn(len(b)-1)] = byte(random.Intn(8) + 96*random.Intn(2))
		}
		s := string(b[:len(b)-random.Intn(2)])
		d, e := dictionary.Decode(s)
		if e != api.OK {
			expectStrings(t, "Decode", d, e, nil, e)
			continue
		}
		accepted++
		form, e := dictionary.Encode(d)
		if form != s || e != api.OK || !slices.IsSorted(d) {
			t.Errorf("%q is decoded, but is no form", s)
		}
	}
	if accepted == 0 {
		t.Error("no changed form was decoded, so nothing was tested")
	}
}

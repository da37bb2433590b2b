package checksum_test

import (
	"encoding/binary"
	"hash/crc32"
	"math"
	"math/rand"
	"slices"
	"strings"
	"testing"

	"sleuth/checksum"
)

// linkOf computes a link by the words of the document.
func linkOf(previous uint32, record string) uint32 {
	b := binary.LittleEndian.AppendUint32(nil, previous)
	b = binary.LittleEndian.AppendUint64(b, uint64(len(record)))
	return crc32.Checksum(append(b, record...), crc32.MakeTable(crc32.Castagnoli))
}

func chainOf(records []string) []uint32 {
	var links []uint32
	for i, record := range records {
		if i == 0 {
			links = append(links, linkOf(0, record))
		} else {
			links = append(links, linkOf(links[i-1], record))
		}
	}
	return links
}

func someRecords(random *rand.Rand) []string {
	var records []string
	for range 1 + random.Intn(6) {
		records = append(records, randomText(random, 12))
	}
	return records
}

func expectVerify(t *testing.T, records []string, links []uint32, want int, wantOk bool) {
	t.Helper()
	if i, ok := checksum.Verify(records, links); i != want || ok != wantOk {
		t.Errorf("Verify(%q, %X): %d, %v; want %d, %v", records, links, i, ok, want, wantOk)
	}
}

// P4.4.
func TestLink(t *testing.T) {
	random := rand.New(rand.NewSource(12))
	records := []string{"", "\x00", "a", strings.Repeat("x", 255), strings.Repeat("x", 256), strings.Repeat("\xff", 70000)}
	for range 200 {
		records = append(records, randomText(random, 40))
	}
	for _, record := range records {
		for _, previous := range []uint32{0, 1, 256, 0x01020304, math.MaxUint32, random.Uint32()} {
			if got, want := checksum.Link(previous, record), linkOf(previous, record); got != want {
				t.Errorf("Link(%X, %q): %X, want %X", previous, record, got, want)
			}
		}
	}
}

// P4.4.
func TestChain(t *testing.T) {
	if len(checksum.Chain(nil)) != 0 || len(checksum.Chain([]string{})) != 0 {
		t.Error("the chain of no records is not empty")
	}
	random := rand.New(rand.NewSource(13))
	for range 300 {
		records := someRecords(random)
		kept := slices.Clone(records)
		links := checksum.Chain(records)
		if !slices.Equal(links, chainOf(records)) {
			t.Errorf("Chain(%q): %X", records, links)
		}
		if !slices.Equal(records, kept) {
			t.Error("the records were modified")
		}
		expectVerify(t, records, links, len(records), true)
	}
}

// P4.4: lists that end at different places, and links that are wrong.
func TestVerify(t *testing.T) {
	expectVerify(t, nil, nil, 0, true)
	expectVerify(t, nil, []uint32{1}, 0, false)
	expectVerify(t, []string{""}, nil, 0, false)
	expectVerify(t, []string{""}, []uint32{0}, 0, false)
	random := rand.New(rand.NewSource(14))
	for range 300 {
		records := someRecords(random)
		links := chainOf(records)
		for i := range records {
			expectVerify(t, records[:i], links, i, false)
			expectVerify(t, records, links[:i], i, false)
			wrong := slices.Clone(links)
			wrong[i] ^= 1 << random.Intn(32)
			expectVerify(t, records, wrong, i, false)
			expectVerify(t, records[:i+1], wrong, i, false)
			expectVerify(t, records[:i], wrong, i, false)
			expectVerify(t, records, wrong[:i], i, false)
		}
		expectVerify(t, records, append(slices.Clone(links), 0), len(records), false)
	}
}

// P4.4: each link is verified against the one before it in the list, even if that one is wrong itself.
func TestVerifyFollowsTheLinksOfTheList(t *testing.T) {
	records := []string{"a", "b", "c"}
	links := []uint32{5, linkOf(5, "b"), linkOf(linkOf(5, "b"), "c")}
	expectVerify(t, records, links, 0, false)
	links = []uint32{linkOf(0, "a"), 5, linkOf(5, "c")}
	expectVerify(t, records, links, 1, false)
}

// P4.5: if one byte of a record is changed, its link and all links behind it change, and no link before it.
func TestChangedRecords(t *testing.T) {
	random := rand.New(rand.NewSource(15))
	for range 500 {
		records := someRecords(random)
		changed := slices.Clone(records)
		at := random.Intn(len(records))
		if records[at] == "" {
			continue
		}
		b := []byte(records[at])
		b[random.Intn(len(b))] ^= byte(1 + random.Intn(255))
		changed[at] = string(b)
		links, others := checksum.Chain(records), checksum.Chain(changed)
		for i := range links {
			if (links[i] == others[i]) != (i < at) {
				t.Errorf("the link %d, where the record %d was changed", i, at)
			}
		}
		expectVerify(t, changed, links, at, false)
	}
}

// The rule that results are newly allocated.
func TestChainsAreNew(t *testing.T) {
	records := []string{"a", "b", "c"}
	links := checksum.Chain(records)
	links[0], links[1] = 7, 8
	if !slices.Equal(checksum.Chain(records), chainOf(records)) {
		t.Error("two chains share memory")
	}
}

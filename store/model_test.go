package store

import (
	"bytes"
	"encoding/binary"
	"hash/fnv"
	"slices"
	"testing"

	"steelyard/api"
	"steelyard/shard"
)

// entry is a record, and ledger what a log must know, kept by other means.
type entry struct {
	name string
	data []byte
}

type ledger []entry

// record is a record's bytes, whatever its parts are.
func record(name string, data []byte) []byte {
	size := binary.LittleEndian.AppendUint32(nil, uint32(len(data)))
	return summed(slices.Concat([]byte{byte(len(name))}, []byte(name), size[:3], data))
}

// summed is some bytes with their sum behind.
func summed(b []byte) []byte {
	h := fnv.New32a()
	h.Write(b)
	return binary.LittleEndian.AppendUint32(slices.Clone(b), h.Sum32())
}

func (g ledger) bytes() []byte {
	var b []byte
	for _, r := range g {
		b = append(b, record(r.name, r.data)...)
	}
	return b
}

// with is the ledger with a record more.
func (g ledger) with(name string, s *shard.Shard) ledger {
	return append(slices.Clone(g), entry{name, s.Encode()})
}

// behindOf tells whether a name stands behind another, byte by byte.
func behindOf(a, b string) bool {
	for i := range min(len(a), len(b)) {
		if a[i] != b[i] {
			return a[i] > b[i]
		}
	}
	return len(a) > len(b)
}

// names has each name once, put where it belongs.
func (g ledger) names() []string {
	var l []string
	for _, r := range g {
		if slices.Contains(l, r.name) {
			continue
		}
		at := 0
		for at < len(l) && behindOf(r.name, l[at]) {
			at++
		}
		l = slices.Insert(l, at, r.name)
	}
	return l
}

// total is the bytes of a name's shard, or the error.
func (g ledger) total(t *testing.T, name string) ([]byte, api.Errno) {
	t.Helper()
	total, there := shard.New(), false
	for _, r := range g {
		if r.name != name {
			continue
		}
		there = true
		s, e := shard.Decode(r.data)
		if e != api.OK {
			t.Fatalf("Decode of a record: error %d", e)
		}
		if e := total.Merge(s); e != api.OK {
			return nil, e
		}
	}
	if !there {
		return nil, api.ErrNone
	}
	return total.Encode(), api.OK
}

func (g ledger) compact(t *testing.T) ledger {
	t.Helper()
	var c ledger
	for _, name := range g.names() {
		data, e := g.total(t, name)
		if e != api.OK {
			return g
		}
		c = append(c, entry{name, data})
	}
	if len(c.bytes()) > mostBytes {
		return g
	}
	return c
}

// holds fails unless a log tells what its ledger does.
func holds(t *testing.T, what string, l *Log, g ledger) {
	t.Helper()
	if l == nil {
		t.Fatalf("%s: no log", what)
	}
	alike(t, what+": Bytes", l.Bytes(), g.bytes())
	got := l.Records()
	if len(got) != len(g) {
		t.Fatalf("%s: %d records; want %d", what, len(got), len(g))
	}
	for i, r := range got {
		if r.Name != g[i].name || !bytes.Equal(r.Data, g[i].data) {
			t.Errorf("%s: the record %d is %q, %v; want %q, %v", what, i, r.Name, r.Data, g[i].name, g[i].data)
		}
	}
	if got, want := l.Names(), g.names(); !slices.Equal(got, want) {
		t.Errorf("%s: Names %q; want %q", what, got, want)
	}
	for _, name := range append([]string{"", "no such name"}, g.names()[:min(len(g.names()), 40)]...) {
		totals(t, what, l, g, name)
	}
}

// totals fails unless a log's Total of a name is its ledger's.
func totals(t *testing.T, what string, l *Log, g ledger, name string) {
	t.Helper()
	s, e := l.Total(name)
	data, is := g.total(t, name)
	if e != is || (s == nil) != (is != api.OK) {
		t.Errorf("%s: Total(%q): %v, error %d; want error %d", what, name, s, e, is)
	} else if s != nil {
		alike(t, what+": Total", s.Encode(), data)
	}
}

// read is Replay, said once more, by other means.
func read(b []byte) (g ledger, whole int, e api.Errno) {
	if len(b) > mostBytes {
		return nil, 0, api.ErrLong
	}
	left := bytes.NewBuffer(b)
	for left.Len() > 0 {
		r, e := readOne(left)
		if e != api.OK {
			return g, whole, e
		}
		g = append(g, r)
		whole = len(b) - left.Len()
	}
	return g, whole, api.OK
}

// readOne takes a record off. What it took off beside an error is of no account.
func readOne(left *bytes.Buffer) (entry, api.Errno) {
	all := left.Bytes()
	n, _ := left.ReadByte()
	if n-1 >= mostName { // of nought: 255
		return entry{}, api.ErrForm
	}
	name, size := left.Next(int(n)), left.Next(3)
	if len(size) < 3 {
		return entry{}, api.ErrTorn
	}
	want := int(size[0]) + 256*int(size[1]) + 65536*int(size[2])
	data, tail := left.Next(want), left.Next(4)
	if len(tail) < 4 {
		return entry{}, api.ErrTorn
	}
	if head := all[:ahead+len(name)+want]; !bytes.Equal(summed(head), all[:len(head)+behind]) {
		return entry{}, api.ErrSum
	}
	if _, e := shard.Decode(data); e != api.OK {
		return entry{}, api.ErrShard
	}
	return entry{string(name), data}, api.OK
}

// replays fails unless Replay tells these records, so many bytes of them, this error.
func replays(t *testing.T, what string, b []byte, g ledger, e api.Errno) {
	t.Helper()
	l, n, is := Replay(b)
	if l == nil || n != len(g.bytes()) || is != e {
		t.Errorf("%s: %v, %d bytes, error %d; want %d bytes, error %d", what, l != nil, n, is, len(g.bytes()), e)
		return
	}
	holds(t, what, l, g)
}

// asRead fails unless Replay tells what the test's own reading does; it answers the error.
func asRead(t *testing.T, what string, b []byte) api.Errno {
	t.Helper()
	g, whole, e := read(b)
	l, n, is := Replay(b)
	switch {
	case n != whole || is != e || (l == nil) != (e == api.ErrLong):
		t.Errorf("%s, %v: %v, %d bytes, error %d; want %d bytes, error %d", what, brief(b), l != nil, n, is, whole, e)
	case l != nil:
		alike(t, what, l.Bytes(), g.bytes())
		if len(l.Records()) != len(g) {
			t.Errorf("%s, %v: %d records; want %d", what, brief(b), len(l.Records()), len(g))
		}
	}
	return e
}

// logs are a few, with what they must know.
func logs(t *testing.T) ([]*Log, []ledger) {
	t.Helper()
	var all []*Log
	var known []ledger
	d := dice(2200)
	for n := range 6 {
		l, g := New(), ledger(nil)
		for range n {
			name, s := d.name(4+4*n), of(some()[d.below(len(some()))]...)
			puts(t, l, name, s)
			g = g.with(name, s)
		}
		all, known = append(all, l), append(known, g)
	}
	return all, known
}

package store

import (
	"bytes"
	"slices"
	"testing"

	"steelyard/api"
)

// R2: what Bytes answers is its owner's, the room behind it too.
func TestBytesAreNew(t *testing.T) {
	all, known := logs(t)
	for i, l := range all {
		first, second := l.Bytes(), l.Bytes()
		spoil(first)
		alike(t, "another answer", second, known[i].bytes())
		holds(t, "written over", l, known[i])
		puts(t, l, "more", of(1))
		alike(t, "an earlier answer", second, known[i].bytes())
		spoil(second)
		holds(t, "written over again", l, known[i].with("more", of(1)))
	}
}

// R2: so are the records, each by itself, and the names.
func TestRecordsAreNew(t *testing.T) {
	all, known := logs(t)
	for i, l := range all {
		g := known[i]
		first, second := l.Records(), l.Records()
		for at, r := range first {
			spoil(r.Data)
			for j := at + 1; j < len(first); j++ {
				alike(t, "another record of one answer", first[j].Data, g[j].data)
			}
		}
		for j, r := range second {
			alike(t, "another answer", r.Data, g[j].data)
		}
		spoilList(first, api.Record{Name: "spoilt", Data: []byte{1}})
		one, two := l.Names(), l.Names()
		spoilList(one, "spoilt")
		if !slices.Equal(two, g.names()) {
			t.Errorf("Names of another answer: %q", two)
		}
		holds(t, "written over", l, g)
		puts(t, l, "more", of(1))
		holds(t, "goes on", l, g.with("more", of(1)))
		for j, r := range second {
			alike(t, "an earlier answer", r.Data, g[j].data)
		}
	}
}

// R2: what is handed to Replay stays as it is, the room behind it too, and may be written over afterwards.
func TestReplayKeepsNothing(t *testing.T) {
	_, known := logs(t)
	for _, g := range known {
		for _, rest := range [][]byte{nil, {0}, {1, 'a'}, with(record("a", of(1).Encode()), 1, 'b'), record("a", []byte{7})} {
			b := append(g.bytes(), rest...)
			room := slices.Concat(b, record("behind", of(3).Encode()), bytes.Repeat([]byte{7}, 2000))
			before := slices.Clone(room)
			l, n, _ := Replay(room[:len(b)])
			alike(t, "what is handed in", room, before)
			if n != len(g.bytes()) {
				t.Errorf("%d bytes; want %d", n, len(g.bytes()))
			}
			spoil(room)
			holds(t, "written over", l, g)
			room = slices.Clone(before)
			l, _, _ = Replay(room[:len(b)])
			puts(t, l, "more", of(2, hole))
			alike(t, "what is handed in, behind Append", room, before)
			more := g.with("more", of(2, hole))
			spoil(room)
			holds(t, "written over behind Append", l, more)
			puts(t, l, "more", of(5))
			holds(t, "goes on", l, more.with("more", of(5)))
		}
	}
}

// R2: the same with bytes that are too long.
func TestTooLongStays(t *testing.T) {
	b := bytes.Repeat(record("a", of(1).Encode()), 12000)
	before := slices.Clone(b)
	Replay(b)
	alike(t, "too long", b, before)
}

// R2: two logs that are read of the same bytes, and one that is read of another's, share nothing.
func TestReplayTwice(t *testing.T) {
	all, known := logs(t)
	for i, l := range all {
		b := l.Bytes()
		one, _, _ := Replay(b)
		two, _, _ := Replay(b)
		puts(t, one, "one", of(1))
		puts(t, two, "second", of(2))
		puts(t, l, "three", of(3))
		holds(t, "one", one, known[i].with("one", of(1)))
		holds(t, "two", two, known[i].with("second", of(2)))
		holds(t, "three", l, known[i].with("three", of(3)))
	}
}

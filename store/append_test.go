package store

import (
	"slices"
	"strings"
	"testing"

	"steelyard/api"
	"steelyard/shard"
)

// P22.1: New has no records, and each one is another one.
func TestNew(t *testing.T) {
	l, other := New(), New()
	holds(t, "New", l, nil)
	if len(l.Bytes()) != 0 || len(l.Records()) != 0 || len(l.Names()) != 0 {
		t.Errorf("New has something")
	}
	puts(t, other, "a", of(1))
	holds(t, "New, as it was", l, nil)
	holds(t, "another one", other, ledger(nil).with("a", of(1)))
}

// P22.2: names of 1 to MaxName bytes are taken, and no others; what is refused changes nothing.
func TestNamesByLength(t *testing.T) {
	for _, s := range []*shard.Shard{of(), of(1, 3), of(greatest, tiny)} {
		l, g := New(), ledger(nil)
		for n := 1; n <= mostName; n++ {
			for _, c := range []string{"x", "\x00", "\xff"} {
				name := strings.Repeat(c, n)
				puts(t, l, name, s)
				g = g.with(name, s)
			}
		}
		for _, name := range noNames() {
			if e := l.Append(name, s); e != api.ErrArg {
				t.Errorf("a name of %d bytes: error %d", len(name), e)
			}
		}
		holds(t, "names of all lengths", l, g)
	}
	l := New()
	for _, name := range noNames() {
		if e := l.Append(name, of(1)); e != api.ErrArg {
			t.Errorf("a name of %d bytes, of no records: error %d", len(name), e)
		}
	}
	holds(t, "of no records", l, nil)
}

// P22.1, P22.2: names of any bytes, each once, rising byte by byte.
func TestNamesOfAnyBytes(t *testing.T) {
	d := dice(2201)
	var row []string
	for c := range 256 {
		row = append(row, string([]byte{byte(c)}))
	}
	row = append(row, names()...)
	for range 3 {
		l, g := New(), ledger(nil)
		for _, name := range shuffled(&d, slices.Concat(row, names(), names())) {
			puts(t, l, name, of())
			g = g.with(name, of())
		}
		holds(t, "any bytes", l, g)
		got := l.Names()
		for i := range len(got) - 1 {
			if !behindOf(got[i+1], got[i]) {
				t.Errorf("Names: %q, and %q behind it", got[i], got[i+1])
			}
		}
	}
}

// P22.1: a name that is there several times stands once in Names; one that begins as another one stands behind it.
func TestNamesOnce(t *testing.T) {
	l := New()
	for _, name := range []string{"ab", "b", "a\x00", "a", "ab", "a", "\xff", "a\xff", "b", "A", "a"} {
		puts(t, l, name, of(2))
	}
	want := []string{"A", "a", "a\x00", "ab", "a\xff", "b", "\xff"}
	if got := l.Names(); !slices.Equal(got, want) {
		t.Errorf("Names %q; want %q", got, want)
	}
	if n := len(l.Records()); n != 11 {
		t.Errorf("%d records", n)
	}
}

// P22.2: each record stands behind the others, with what Encode makes of the shard.
func TestAppendInOrder(t *testing.T) {
	d := dice(2202)
	l, g := New(), ledger(nil)
	for range 60 {
		name, s := d.name(25), of(some()[d.below(len(some()))]...)
		puts(t, l, name, s)
		g = g.with(name, s)
		holds(t, "one more", l, g)
	}
}

// P22.2: shards that need the most bytes.
func TestAppendLongShards(t *testing.T) {
	wide := doubled(39, greatest)
	wide.Merge(doubled(38, tiny))
	wide.Merge(doubled(37, -1))
	l, g := New(), ledger(nil)
	for _, s := range []*shard.Shard{wide, of(), wide, doubled(40, greatest), doubled(40, hole), wide} {
		puts(t, l, "a", s)
		g = g.with("a", s)
	}
	if n := len(wide.Encode()); n < 600 {
		t.Errorf("the long one has %d bytes", n)
	}
	alike(t, "Bytes", l.Bytes(), g.bytes())
	replays(t, "read again", l.Bytes(), g, api.OK)
}

// P22.2: the record has the shard as it is now; what is added behind it changes nothing of it, nor does Append of the shard.
func TestAppendAsItIsNow(t *testing.T) {
	s, l, g := of(), New(), ledger(nil)
	for _, x := range nums(1, 3, hole, inf, noughtBelow, greatest, tiny) {
		puts(t, l, "a", s)
		g = g.with("a", s)
		s.Add(x)
		holds(t, "added to", l, g)
		s.Merge(s)
		holds(t, "merged", l, g)
	}
	before := s.Encode()
	puts(t, l, "b", s)
	alike(t, "the shard stays", s.Encode(), before)
}

// filled is a log in which just this room is left; with what it must know.
func filled(t *testing.T, room int) (*Log, ledger) {
	t.Helper()
	s := of(1e300, 1e-300)
	data := s.Encode()
	each := len(record("name", data))
	var g ledger
	n := mostBytes - room
	for ; n >= 2*each; n -= each {
		g = append(g, entry{"name", data})
	}
	none := of().Encode()
	least := len(record("n", none))
	for ; n >= 3*least; n -= least {
		g = append(g, entry{"n", none})
	}
	g = append(g, entry{lasting(n / 2), none}, entry{lasting(n - n/2), none})
	l, whole, e := Replay(g.bytes())
	if e != api.OK || whole != mostBytes-room || len(l.Bytes()) != whole {
		t.Fatalf("filled up to %d: %d bytes, error %d", room, whole, e)
	}
	return l, g
}

// lasting is the name of so many bytes that a record with it, and a shard of no numbers, has size bytes.
func lasting(size int) string {
	return strings.Repeat("z", size-len(record("", of().Encode())))
}

// full fails unless a log has no room left, whatever is appended, and stays as it is.
func full(t *testing.T, l *Log, g ledger) {
	t.Helper()
	for _, name := range []string{"a", "n", "\x00", strings.Repeat("x", mostName)} {
		for _, s := range []*shard.Shard{of(), of(1), of(greatest, tiny)} {
			if e := l.Append(name, s); e != api.ErrLong {
				t.Errorf("Append to a full log: error %d", e)
			}
		}
	}
	for _, name := range noNames() {
		if e := l.Append(name, of()); e != api.ErrArg {
			t.Errorf("a name of %d bytes to a full log: error %d", len(name), e)
		}
	}
	if n := len(l.Bytes()); n != mostBytes {
		t.Errorf("%d bytes", n)
	}
	alike(t, "full", l.Bytes(), g.bytes())
}

// P22.2: up to MaxBytes, and not one byte past it; what is refused changes nothing; ErrArg is ahead of ErrLong.
func TestJustFull(t *testing.T) {
	for _, room := range []int{67, 68, 99, 129, 130} {
		l, g := filled(t, room)
		if room < len(record(strings.Repeat("x", mostName), of().Encode())) {
			if e := l.Append(lasting(room+1), of()); e != api.ErrLong {
				t.Errorf("a room of %d, a name too long by a byte: error %d", room, e)
			}
		}
		if e := l.Append(lasting(room), of(1)); e != api.ErrLong {
			t.Errorf("a room of %d, a shard too long: error %d", room, e)
		}
		alike(t, "what is refused changes nothing", l.Bytes(), g.bytes())
		puts(t, l, lasting(room), of())
		full(t, l, g.with(lasting(room), of()))
	}
}

// P22.2: a room that is too little for any record.
func TestNoRoom(t *testing.T) {
	for _, room := range []int{0, 1, 8, 66} {
		l, g := filled(t, room)
		if e := l.Append("a", of()); e != api.ErrLong {
			t.Errorf("a room of %d: error %d", room, e)
		}
		if e := l.Append("", of()); e != api.ErrArg {
			t.Errorf("a room of %d, no name: error %d", room, e)
		}
		alike(t, "as it was", l.Bytes(), g.bytes())
	}
}

// P22.2: by Append alone: as many records as there is room for, and not one more.
func TestAppendTillFull(t *testing.T) {
	l, g := New(), ledger(nil)
	s := of(-greatest, tiny, 1)
	data := s.Encode()
	each := len(record("abc", data))
	for range mostBytes / each {
		puts(t, l, "abc", s)
		g = append(g, entry{"abc", data})
	}
	for range 3 {
		if e := l.Append("abc", s); e != api.ErrLong {
			t.Errorf("one too many: error %d", e)
		}
	}
	alike(t, "as many as there is room for", l.Bytes(), g.bytes())
	if n := len(l.Records()); n != mostBytes/each {
		t.Errorf("%d records; want %d", n, mostBytes/each)
	}
	totals(t, "of them all", l, g, "abc")
}

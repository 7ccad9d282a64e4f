package store

import (
	"slices"
	"strings"
	"testing"

	"steelyard/api"
	"steelyard/shard"
)

// none fails unless a log has no record of a name.
func none(t *testing.T, l *Log, name string) {
	t.Helper()
	if s, e := l.Total(name); s != nil || e != api.ErrNone {
		t.Errorf("Total(%q): %v, error %d", brief(name), s, e)
	}
}

// comes fails unless a Total is the shard of these numbers.
func comes(t *testing.T, l *Log, name string, want *shard.Shard) {
	t.Helper()
	s, e := l.Total(name)
	if e != api.OK || s == nil {
		t.Errorf("Total(%q): %v, error %d", brief(name), s, e)
		return
	}
	if s.Count() != want.Count() {
		t.Errorf("Total(%q): Count %d; want %d", brief(name), s.Count(), want.Count())
	}
	alike(t, "Total", s.Encode(), want.Encode())
}

// P22.4: a name that is not there: ErrNone, and nil; so are names that no record may have.
func TestTotalOfNone(t *testing.T) {
	l := New()
	for _, name := range append(noNames(), names()...) {
		none(t, l, name)
	}
	for _, name := range []string{"ab", "b\x00", "\xff", "B"} {
		puts(t, l, name, of(1))
	}
	for _, name := range append(noNames(), "a", "abc", "b", "\x00", "\xff\xff", "A", "ab\x00", " ab", strings.Repeat("ab", 32)) {
		none(t, l, name)
	}
}

// P22.4: of one record: its shard, of any numbers.
func TestTotalOfOne(t *testing.T) {
	l := New()
	for i, list := range some() {
		puts(t, l, names()[i], of(list...))
	}
	for i, list := range some() {
		comes(t, l, names()[i], of(list...))
	}
	none(t, l, names()[len(some())])
}

// P22.4: of several records: all their numbers, and none of the others'.
func TestTotalOfSeveral(t *testing.T) {
	d := dice(2204)
	for range 30 {
		l, has := New(), map[string][]float64{}
		for range 20 {
			name, list := d.name(5), d.list(d.below(4))
			puts(t, l, name, of(list...))
			has[name] = append(has[name], list...)
			for name, list := range has {
				comes(t, l, name, of(list...))
			}
		}
	}
}

// P22.4: records of no numbers are records.
func TestTotalOfNoNumbers(t *testing.T) {
	l := New()
	puts(t, l, "a", of())
	comes(t, l, "a", of())
	puts(t, l, "a", of())
	comes(t, l, "a", of())
	puts(t, l, "a", of(noughtBelow))
	comes(t, l, "a", of(noughtBelow))
}

// tooMany is a log in which a's counts together are one above MaxCount, b's just MaxCount.
func tooMany(t *testing.T) (*Log, ledger) {
	t.Helper()
	l, g := New(), ledger(nil)
	for _, r := range []struct {
		name string
		s    *shard.Shard
	}{{"b", doubled(39, 2)}, {"a", doubled(39, 1)}, {"c", of(3)}, {"a", doubled(39, hole)}, {"b", doubled(39, -2)}, {"a", of(noughtBelow)}, {"a", of()}} {
		puts(t, l, r.name, r.s)
		g = g.with(r.name, r.s)
	}
	return l, g
}

// P22.4: counts together above MaxCount: the error, and nil; just MaxCount is told; so are the other names.
func TestTotalOfTooMany(t *testing.T) {
	l, g := tooMany(t)
	for range 2 {
		if s, e := l.Total("a"); s != nil || e != api.ErrLong {
			t.Errorf("Total: %v, error %d", s, e)
		}
		both := doubled(39, 2)
		both.Merge(doubled(39, -2))
		comes(t, l, "b", both)
		comes(t, l, "c", of(3))
		none(t, l, "d")
		holds(t, "as it was", l, g)
	}
	for _, x := range nums(1, inf, hole, 0) {
		l := New()
		puts(t, l, "a", doubled(40, x))
		puts(t, l, "a", of())
		comes(t, l, "a", doubled(40, x))
		puts(t, l, "a", of(1))
		if s, e := l.Total("a"); s != nil || e != api.ErrLong {
			t.Errorf("2^40 and one: %v, error %d", s, e)
		}
		puts(t, l, "a", of())
		if s, e := l.Total("a"); s != nil || e != api.ErrLong {
			t.Errorf("with none behind: %v, error %d", s, e)
		}
	}
}

// P22.4: lawful bytes that no numbers have, which came in by Replay.
func TestTotalOfNoNumbersBytes(t *testing.T) {
	// 1 and 3, of which the squares are said to be 8 and a half (at least: half of the sum's square).
	data := slices.Concat(make([]byte, 40), []byte{2, 0, 0, 0, 0, 0, 0, 0}, []byte{0, 2, 16, 1, 0, 1, 0, 0, 0}, []byte{0, 255, 15, 1, 0, 17, 0, 0, 0}, of(1, 3).Encode()[66:])
	want, e := shard.Decode(data)
	if e != api.OK {
		t.Fatalf("Decode: error %d", e)
	}
	l, _, is := Replay(slices.Concat(record("a", data), record("a", of(7).Encode()), record("a", data)))
	if is != api.OK {
		t.Fatalf("Replay: error %d", is)
	}
	want.Merge(of(7))
	again, _ := shard.Decode(data)
	want.Merge(again)
	comes(t, l, "a", want)
	holds(t, "Compact", l.Compact(), ledger{{"a", want.Encode()}})
}

// P22.4: what is added to a total changes nothing of the log, nor of another total.
func TestTotalIsNew(t *testing.T) {
	all, known := logs(t)
	for i, l := range all {
		for _, name := range l.Names() {
			first, e := l.Total(name)
			second, f := l.Total(name)
			if e != api.OK || f != api.OK {
				t.Fatalf("Total: errors %d, %d", e, f)
			}
			kept := second.Encode()
			for _, x := range nums(1, hole, -greatest, tiny) {
				first.Add(x)
				first.Merge(first)
			}
			alike(t, "another one", second.Encode(), kept)
			holds(t, "added to a total", l, known[i])
			first.Merge(second)
			second.Add(3)
			holds(t, "merged with a total", l, known[i])
		}
	}
}

package store

import (
	"slices"
	"sync"
	"testing"

	"steelyard/api"
)

// P22.6: Replay of a log's Bytes: the same records, all bytes, OK.
func TestReplayOfBytes(t *testing.T) {
	all, known := logs(t)
	for i, l := range all {
		replays(t, "its Bytes", l.Bytes(), known[i], api.OK)
		replays(t, "Compact's Bytes", l.Compact().Bytes(), known[i].compact(t), api.OK)
	}
	l, g := tooMany(t)
	replays(t, "of which a total is refused", l.Bytes(), g, api.OK)
	l, g = filled(t, 0)
	again, n, e := Replay(l.Bytes())
	if n != mostBytes || e != api.OK || len(again.Records()) != len(g) {
		t.Errorf("a full log: %d bytes, error %d", n, e)
	}
}

// P22.7: every beginning of a log's bytes: just the records that are whole in it.
func TestEveryBeginning(t *testing.T) {
	all, known := logs(t)
	for i, l := range all {
		b, g := l.Bytes(), known[i]
		whole := 0
		for n := range len(b) + 1 {
			if whole < len(g) && n == len(g[:whole+1].bytes()) {
				whole++
			}
			e := api.ErrTorn
			if n == len(g[:whole].bytes()) {
				e = api.OK
			}
			l, told, is := Replay(b[:n])
			if l == nil || told != len(g[:whole].bytes()) || is != e || len(l.Records()) != whole {
				t.Errorf("the first %d bytes: %d, error %d; want %d, error %d", n, told, is, len(g[:whole].bytes()), e)
				continue
			}
			alike(t, "a beginning", l.Bytes(), g[:whole].bytes())
		}
		if whole != len(g) {
			t.Errorf("%d records of %d", whole, len(g))
		}
	}
}

// P22.8: a byte of a record's name, data or sum another one: the records ahead of it, with ErrSum.
func TestAByteAnotherOne(t *testing.T) {
	all, known := logs(t)
	for i, l := range all {
		b, g := l.Bytes(), known[i]
		at := 0
		for n, r := range g {
			size := len(record(r.name, r.data))
			for j := range size {
				if j == 0 || j > len(r.name) && j < len(r.name)+ahead {
					continue // a length
				}
				was := b[at+j]
				for _, c := range []byte{was ^ 1, was ^ 0x80, was + 1, was - 1, ^was, was ^ 0x10} {
					b[at+j] = c
					l, told, e := Replay(b)
					if l == nil || told != at || e != api.ErrSum {
						t.Errorf("the record %d, the byte %d as %d: %d bytes, error %d", n, j, c, told, e)
						continue
					}
					if len(l.Records()) != n {
						t.Errorf("the record %d, the byte %d: %d records", n, j, len(l.Records()))
					}
					alike(t, "ahead of it", l.Bytes(), g[:n].bytes())
				}
				b[at+j] = was
			}
			at += size
		}
	}
}

// filing is a log, and all numbers of its names.
func filing(t *testing.T, d *dice, records, few int) (*Log, map[string][]float64) {
	t.Helper()
	l, has := New(), map[string][]float64{}
	for range records {
		name, list := d.name(few), d.list(d.below(6))
		puts(t, l, name, of(list...))
		has[name] = append(has[name], list...)
	}
	return l, has
}

// P22.9, P0.1: a Total has the bytes of a shard to which all numbers were added in another order; Compact has the same Names and Totals; Compact of Compact its Bytes.
func TestTotalsInAnyOrder(t *testing.T) {
	d := dice(2206)
	for _, few := range []int{1, 3, 25} {
		for _, records := range []int{0, 1, 2, 7, 60} {
			l, has := filing(t, &d, records, few)
			again, _, _ := Replay(l.Bytes())
			c := l.Compact()
			for name, list := range has {
				for _, log := range []*Log{l, again, c, c.Compact()} {
					comes(t, log, name, of(shuffled(&d, list)...))
				}
			}
			if !slices.Equal(c.Names(), l.Names()) || len(c.Names()) != len(has) {
				t.Errorf("Names %q, and %q", c.Names(), l.Names())
			}
			alike(t, "Compact of Compact", c.Compact().Bytes(), c.Bytes())
		}
	}
}

// P22.9, P0.1: records in another order have the same Totals, and the same Compact.
func TestRecordsInAnyOrder(t *testing.T) {
	d := dice(2207)
	for range 20 {
		var g ledger
		for range 30 {
			g = g.with(d.name(6), of(d.list(d.below(5))...))
		}
		first, _, _ := Replay(g.bytes())
		other, _, _ := Replay(shuffled(&d, g).bytes())
		alike(t, "Compact", other.Compact().Bytes(), first.Compact().Bytes())
	}
}

// P0.3: what is kept is enough: a total tells what the list tells, by every mode.
func TestTotalsTell(t *testing.T) {
	d := dice(2208)
	l, has := filing(t, &d, 40, 4)
	for name, list := range has {
		total, e := l.Total(name)
		if e != api.OK {
			t.Fatalf("Total: error %d", e)
		}
		for mode := range 5 {
			p := api.Policy{NaN: api.Pass, Inf: api.Pass}
			x, e := total.Sum(mode, p)
			y, f := of(list...).Sum(mode, p)
			if e != f || x != y {
				t.Errorf("Sum by %d: %v, %d; want %v, %d", mode, x, e, y, f)
			}
		}
	}
}

// step does anything to one of some logs, and likewise to what it must know.
func step(t *testing.T, d *dice, all []*Log, known []ledger) {
	t.Helper()
	i, j := d.below(len(all)), d.below(len(all))
	switch d.below(6) {
	case 0:
		all[i], known[i] = all[j].Compact(), known[j].compact(t)
	case 1:
		b := all[j].Bytes()
		n := d.below(len(b) + 1)
		g, _, e := read(b[:n])
		l, _, is := Replay(b[:n])
		if e != is {
			t.Fatalf("Replay: error %d; want %d", is, e)
		}
		all[i], known[i] = l, slices.Clone(g)
	case 2:
		if len(known[j]) > 0 {
			name := known[j][d.below(len(known[j]))].name
			total, e := all[j].Total(name)
			if e != api.OK {
				t.Fatalf("Total: error %d", e)
			}
			puts(t, all[i], name, total)
			known[i] = known[i].with(name, total)
		}
	default:
		name, s := d.name(8), of(d.list(d.below(4))...)
		puts(t, all[i], name, s)
		known[i] = known[i].with(name, s)
	}
}

// Several logs at once have nothing in common, whatever is done to one.
func TestNothingInCommon(t *testing.T) {
	d := dice(2209)
	var all []*Log
	var known []ledger
	for range 6 {
		all, known = append(all, New()), append(known, nil)
	}
	for range 400 {
		step(t, &d, all, known)
		for i, l := range all {
			alike(t, "one of several", l.Bytes(), known[i].bytes())
		}
	}
	for i, l := range all {
		holds(t, "one of several", l, known[i])
	}
}

// Likewise where each is filled by a goroutine of its own.
func TestSideBySide(t *testing.T) {
	all := make([]*Log, 8)
	known := make([]ledger, len(all))
	var group sync.WaitGroup
	for i := range all {
		group.Go(func() {
			d := dice(2210 + i)
			l, g := New(), ledger(nil)
			for range 50 {
				name, s := d.name(25), of(d.list(d.below(5))...)
				l.Append(name, s)
				g = g.with(name, s)
			}
			again, _, _ := Replay(l.Bytes())
			all[i], known[i] = again.Compact(), g
		})
	}
	group.Wait()
	for i, l := range all {
		holds(t, "side by side", l, known[i].compact(t))
	}
}

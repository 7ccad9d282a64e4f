package store

import (
	"slices"
	"strconv"
	"strings"
	"testing"

	"steelyard/api"
)

// P22.5: of no records.
func TestCompactOfNone(t *testing.T) {
	l := New()
	c := l.Compact()
	holds(t, "of none", c, nil)
	puts(t, c, "a", of(1))
	holds(t, "and the log", l, nil)
	puts(t, l, "b", of(2))
	holds(t, "and the other one", c, ledger(nil).with("a", of(1)))
}

// P22.5: of one name, of several: a record each, rising, with its Total.
func TestCompact(t *testing.T) {
	l, g := New(), ledger(nil)
	for i, list := range some() {
		puts(t, l, "a", of(list...))
		g = g.with("a", of(list...))
		c := l.Compact()
		holds(t, "of one name", c, g.compact(t))
		if n := len(c.Records()); n != 1 {
			t.Errorf("%d records of one name", n)
		}
		holds(t, "the log stays", l, g)
		comes(t, c, "a", of(slices.Concat(some()[:i+1]...)...))
	}
	d := dice(2205)
	for n := range 60 {
		l, g := New(), ledger(nil)
		for range n {
			name, s := d.name(1+d.below(25)), of(d.list(d.below(4))...)
			puts(t, l, name, s)
			g = g.with(name, s)
		}
		c := l.Compact()
		holds(t, "of several names", c, g.compact(t))
		holds(t, "the log stays", l, g)
		if !slices.Equal(c.Names(), l.Names()) || len(c.Records()) != len(l.Names()) {
			t.Errorf("Names %q, of %d records; want %q", c.Names(), len(c.Records()), l.Names())
		}
	}
}

// P22.5: where a Total is refused: the same records, in their order.
func TestCompactOfTooMany(t *testing.T) {
	l, g := tooMany(t)
	c := l.Compact()
	holds(t, "the same records", c, g)
	holds(t, "the log stays", l, g)
	holds(t, "once more", c.Compact(), g)
	puts(t, c, "a", of(9))
	puts(t, c, "\x00", of(9))
	holds(t, "the log stays", l, g)
	puts(t, l, "zz", of(8))
	holds(t, "and so does the other one", c, g.with("a", of(9)).with("\x00", of(9)))
	holds(t, "and the log has its own", l, g.with("zz", of(8)))
}

// P22.5: the one that is refused may be any name.
func TestCompactRefusedAnywhere(t *testing.T) {
	for _, refused := range []string{"a", "m", "z"} {
		l, g := New(), ledger(nil)
		for _, name := range []string{"z", "a", "m", "a", "z", "m"} {
			s := of(1)
			if name == refused {
				s = doubled(40, 1)
			}
			puts(t, l, name, s)
			g = g.with(name, s)
		}
		holds(t, "the same records", l.Compact(), g)
	}
}

// grows is a log whose records, one a name, would come to just so many bytes: far ends of numbers take more room together than apart.
func grows(t *testing.T, size int) (*Log, ledger) {
	t.Helper()
	upper, lower := of(1e300), of(1e-300)
	both := of(1e300, 1e-300).Encode()
	const plain = 4 // bytes of a name as it is counted
	each := len(record("", both)) + plain
	n, left := size/each, size%each
	var g ledger
	for i := range n {
		name := strconv.Itoa(1000 + n - 1 - i)
		more := min(left, mostName-plain)
		left -= more
		g = append(g, entry{name + strings.Repeat("-", more), upper.Encode()})
	}
	if left > 0 || n > 8999 {
		t.Fatalf("%d names, %d left", n, left)
	}
	for _, r := range g[:n:n] {
		g = append(g, entry{r.name, lower.Encode()})
	}
	l, _, e := Replay(g.bytes())
	if e != api.OK {
		t.Fatalf("Replay: error %d", e)
	}
	return l, g
}

// P22.5: records that would be of more than MaxBytes bytes: the same records; those of just MaxBytes are made.
func TestCompactTooLong(t *testing.T) {
	for _, more := range []int{-1, 0} {
		l, g := grows(t, mostBytes+more)
		c := l.Compact()
		alike(t, "one a name", c.Bytes(), g.compact(t).bytes())
		if n := len(c.Bytes()); n != mostBytes+more || 2*len(c.Records()) != len(g) {
			t.Errorf("%d bytes, %d records", n, len(c.Records()))
		}
		alike(t, "the log stays", l.Bytes(), g.bytes())
	}
	for _, more := range []int{1, 2, 800, 100000} {
		l, g := grows(t, mostBytes+more)
		c := l.Compact()
		alike(t, "the same records", c.Bytes(), g.bytes())
		alike(t, "once more", c.Compact().Bytes(), g.bytes())
		puts(t, c, "a", of(1))
		alike(t, "the log stays", l.Bytes(), g.bytes())
		alike(t, "the other one goes on", c.Bytes(), g.with("a", of(1)).bytes())
		puts(t, l, "b", of(2))
		alike(t, "the log goes on", l.Bytes(), g.with("b", of(2)).bytes())
		alike(t, "the other one stays", c.Bytes(), g.with("a", of(1)).bytes())
	}
}

// P22.5: of a full log, of as many names as there may be, and of one name alone.
func TestCompactOfFull(t *testing.T) {
	s := of()
	data := s.Encode()
	var many, alone ledger
	for i := range mostBytes / len(record("12345", data)) {
		many = append(many, entry{strconv.Itoa(99999 - i), data})
		alone = append(alone, entry{"12345", data})
	}
	l, _, _ := Replay(many.bytes())
	c := l.Compact()
	slices.Reverse(many)
	alike(t, "many names", c.Bytes(), many.bytes())
	l, _, _ = Replay(alone.bytes())
	holds(t, "one name", l.Compact(), alone[:1])
}

// P22.5: the two have nothing in common.
func TestCompactIsNew(t *testing.T) {
	all, known := logs(t)
	for i, l := range all {
		c, other := l.Compact(), l.Compact()
		g, small := known[i], known[i].compact(t)
		puts(t, c, "c", of(1))
		holds(t, "the log stays", l, g)
		holds(t, "another one stays", other, small)
		puts(t, l, "d", of(2))
		holds(t, "the log goes on", l, g.with("d", of(2)))
		holds(t, "Compact goes on", c, small.with("c", of(1)))
		holds(t, "another one stays", other, small)
	}
}

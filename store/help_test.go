package store

import (
	"bytes"
	"math"
	"slices"
	"strings"
	"testing"

	"steelyard/api"
	"steelyard/shard"
)

const (
	mostBytes = 1048576 // of a log
	mostName  = 64      // bytes of a name
	ahead     = 4       // bytes that tell lengths
	behind    = 4       // bytes that tell a sum
	tiny      = 0x1p-1074
	greatest  = math.MaxFloat64
)

var (
	inf         = math.Inf(1)
	hole        = math.NaN()
	noughtBelow = math.Copysign(0, -1)
	carry       = api.Policy{}
)

// nums writes a list.
func nums(x ...float64) []float64 { return x }

// of is a shard to which these were added.
func of(l ...float64) *shard.Shard {
	s := shard.New()
	for _, x := range l {
		s.Add(x)
	}
	return s
}

// doubled is a shard that has x 2^n times.
func doubled(n int, x float64) *shard.Shard {
	s := of(x)
	for range n {
		s.Merge(s)
	}
	return s
}

// some are lists of every kind, from none to such as need the most bytes.
func some() [][]float64 {
	return [][]float64{
		nil, nums(1), nums(1, 3), nums(hole), nums(inf, -inf), nums(noughtBelow), nums(0, noughtBelow, hole), nums(0.1, 0.2, 0.3),
		nums(tiny), nums(greatest, tiny), nums(-greatest, -greatest, 1), nums(1e300, 1e-300, inf), nums(2, -2), nums(hole, hole, 7),
	}
}

// names are of all lengths and bytes, several of which begin as another one.
func names() []string {
	return []string{
		"a", "b", "ab", "a\x00", "aa", "A", "\x00", "\x00\x00", "\xff", "\xff\xff", "\xff\x00", "\x80", "\x7f", "\xc3\xa9", "\xc3", " ", "\n", "0", "b\xffa", "abc",
		strings.Repeat("x", mostName), strings.Repeat("x", mostName-1), strings.Repeat("\x00", mostName), strings.Repeat("\xff", mostName), strings.Repeat("a", mostName),
	}
}

// noNames are such as no record has.
func noNames() []string {
	l := []string{""}
	for _, n := range []int{mostName + 1, mostName + 2, 100, 127, 128, 255, 256, 257, 256 + mostName, 512, 65536, 65537, 1<<24 + 1} {
		for _, c := range []string{"a", "\x00", "\xff"} {
			l = append(l, strings.Repeat(c, n))
		}
	}
	return l
}

// puts appends what must be taken.
func puts(t *testing.T, l *Log, name string, s *shard.Shard) {
	t.Helper()
	if e := l.Append(name, s); e != api.OK {
		t.Fatalf("Append(%q): error %d", brief(name), e)
	}
}

// brief keeps failures readable.
func brief[T ~string | ~[]byte](b T) T { return b[:min(len(b), 200)] }

// alike fails unless bytes are these.
func alike(t *testing.T, what string, got, want []byte) {
	t.Helper()
	if !bytes.Equal(got, want) {
		at := 0
		for at < min(len(got), len(want)) && got[at] == want[at] {
			at++
		}
		t.Errorf("%s: %d bytes, want %d; they differ from byte %d on: %v, want %v", what, len(got), len(want), at, brief(got[at:]), brief(want[at:]))
	}
}

// spoil writes over bytes, and over the spare room behind them.
func spoil(b []byte) {
	b = b[:cap(b)]
	for i := range b {
		b[i] ^= 0xA5
	}
}

// spoilList does so with a list of anything.
func spoilList[T any](l []T, with T) {
	l = l[:cap(l)]
	for i := range l {
		l[i] = with
	}
}

// with is a copy in which the byte at a place is another one.
func with(b []byte, at int, c byte) []byte {
	b = slices.Clone(b)
	b[at] = c
	return b
}

// dice is a row of words that looks like none in particular, and is the same at each run.
type dice uint64

func (d *dice) roll() uint64 {
	*d = *d*6364136223846793005 + 1442695040888963407
	return uint64(*d >> 11)
}

func (d *dice) below(n int) int { return int(d.roll()>>8) % n }

// number is one of any kind.
func (d *dice) number() float64 {
	switch row := nums(0, noughtBelow, inf, -inf, hole, 1, -1, 0.1, tiny, greatest, -greatest, 1e16); d.below(4) {
	case 0:
		return row[d.below(len(row))]
	case 1:
		return float64(d.below(9) - 4)
	case 2:
		return math.Float64frombits(d.roll()<<32 ^ d.roll())
	}
	return math.Ldexp(float64(d.below(2000)-1000), d.below(80)-40)
}

func (d *dice) list(n int) []float64 {
	l := make([]float64, n)
	for i := range l {
		l[i] = d.number()
	}
	return l
}

// name is one of the first few names, so that several records have it.
func (d *dice) name(few int) string { return names()[d.below(few)] }

// shuffled is a list in another order.
func shuffled[L ~[]T, T any](d *dice, l L) L {
	l = slices.Clone(l)
	for i := range l {
		j := i + d.below(len(l)-i)
		l[i], l[j] = l[j], l[i]
	}
	return l
}

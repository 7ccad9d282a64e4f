package shard

import (
	"bytes"
	"encoding/binary"
	"math"
	"math/big"
	"slices"
	"testing"
)

// P21.4: the six numbers, each in its place, the low byte first.
func TestEncodeCounts(t *testing.T) {
	for i, x := range nums(hole, inf, -inf, noughtBelow, 0) {
		s, _ := doubled(t, 33, x)
		s.Add(x)
		s.Add(x)
		b := s.Encode()
		for at := range 48 {
			is := byte(0)
			if at/8 == i || at/8 == 5 {
				is = []byte{2, 0, 0, 0, 2, 0, 0, 0}[at%8]
			}
			if b[at] != is {
				t.Errorf("%x: the byte %d is %d; want %d", x, at, b[at], is)
			}
		}
	}
	b := of(hole, inf, inf, -inf, -inf, -inf, noughtBelow, noughtBelow, noughtBelow, noughtBelow, 0, 0, 0, 0, 0, 1, 2).Encode()
	for i, is := range []uint64{1, 2, 3, 4, 5, 17} {
		if n := binary.LittleEndian.Uint64(b[8*i:]); n != is {
			t.Errorf("the number %d: %d; want %d", i, n, is)
		}
	}
}

// P21.4: the whole of some shards, byte by byte.
func TestEncodeWhole(t *testing.T) {
	dyad0 := []byte{0, 0, 16, 0, 0}
	six := func(n ...byte) []byte {
		b := make([]byte, 48)
		for i, c := range n {
			b[8*i] = c
		}
		return b
	}
	ninf, pinf := []byte{0, 0, 0, 0, 0, 0, 240, 255}, []byte{0, 0, 0, 0, 0, 0, 240, 127}
	minus, plus := []byte{0, 0, 0, 0, 0, 0, 0, 128}, make([]byte, 8)
	for what, c := range map[string]struct{ got, is []byte }{
		"NaN alone":     {of(odds()...).Encode(), slices.Concat(six(16, 0, 0, 0, 0, 16), dyad0, dyad0)},
		"+Inf":          {of(inf).Encode(), slices.Concat(six(0, 1, 0, 0, 0, 1), dyad0, dyad0, pinf, pinf)},
		"both, and NaN": {of(inf, -inf, hole).Encode(), slices.Concat(six(1, 1, 1, 0, 0, 3), dyad0, dyad0, ninf, pinf)},
		"-0":            {of(noughtBelow).Encode(), slices.Concat(six(0, 0, 0, 1, 0, 1), dyad0, dyad0, minus, minus)},
		"both noughts":  {of(0, noughtBelow, 0).Encode(), slices.Concat(six(0, 0, 0, 1, 2, 3), dyad0, dyad0, minus, plus)},
		"-3":            {of(-3).Encode(), slices.Concat(six(0, 0, 0, 0, 0, 1), []byte{1, 0, 16, 1, 0, 3, 0, 0, 0, 0, 0, 16, 1, 0, 9, 0, 0, 0}, []byte{0, 0, 0, 0, 0, 0, 8, 192, 0, 0, 0, 0, 0, 0, 8, 192})},
		"1, -1":         {of(1, -1).Encode(), slices.Concat(six(0, 0, 0, 0, 0, 2), dyad0, []byte{0, 1, 16, 1, 0, 1, 0, 0, 0}, []byte{0, 0, 0, 0, 0, 0, 240, 191, 0, 0, 0, 0, 0, 0, 240, 63})},
		"the least one": {of(tiny).Encode(), slices.Concat(six(0, 0, 0, 0, 0, 1), []byte{0, 0xCE, 0x0B, 1, 0, 1, 0, 0, 0, 0, 0x9C, 0x07, 1, 0, 1, 0, 0, 0}, []byte{1, 0, 0, 0, 0, 0, 0, 0, 1, 0, 0, 0, 0, 0, 0, 0})},
		"1 + 2^-40, -Inf": {of(1+0x1p-40, -inf).Encode(), slices.Concat(six(0, 0, 1, 0, 0, 2),
			[]byte{0, 0xD8, 0x0F, 2, 0, 1, 0, 0, 0, 0, 1, 0, 0}, []byte{0, 0xB0, 0x0F, 3, 0, 1, 0, 0, 0, 0, 2, 0, 0, 0, 0, 1, 0}, ninf, []byte{0, 16, 0, 0, 0, 0, 240, 63})},
	} {
		if !bytes.Equal(c.got, c.is) {
			t.Errorf("%s: %v; want %v", what, c.got, c.is)
		}
	}
}

// P21.4: sums of one word and of many, above and below nought; each place of each word.
func TestEncodeSums(t *testing.T) {
	for exp := -1074; exp <= 1023; exp += 31 {
		x := math.Ldexp(1, exp)
		for _, l := range [][]float64{nums(x), nums(-x), nums(x, tiny), nums(-x, tiny), nums(x, -greatest), nums(x, x, x), nums(x, -x)} {
			keeps(t, "powers of two", of(l...), newBook(l...))
		}
	}
	s, b := doubled(t, 39, greatest)
	s.Add(tiny)
	b.add(tiny)
	keeps(t, "the most words", s, b)
	l := b.layout()
	if len(l.sum.words) != 67 || len(l.squares.words) != 133 {
		t.Errorf("%d and %d words", len(l.sum.words), len(l.squares.words))
	}
}

// P21.4: where all are NaN there are no ends; one other number, of whatever kind, has them.
func TestEncodeEnds(t *testing.T) {
	for _, x := range edges() {
		for _, y := range edges() {
			b := of(hole, x, y).Encode()
			low, _ := of(x, y).Least()
			high, _ := of(x, y).Most()
			if got := b[len(b)-16:]; !bytes.Equal(got, layout{ends: between(low, high)}.bytes()[58:]) {
				t.Errorf("%x, %x: %v", x, y, got)
			}
		}
	}
	for n := range 5 {
		if b := of(often(n, hole)...).Encode(); len(b) != 58 {
			t.Errorf("%d NaN: %d bytes", n, len(b))
		}
	}
}

// P21.4: the same numbers, each as often, in all orders.
func TestEncodeHangsOnNoOrder(t *testing.T) {
	d := dice(217)
	for _, kind := range kinds() {
		for range 5 {
			l := d.list(1+d.below(9), kind)
			is := of(l...).Encode()
			for range 4 {
				if m := d.shuffled(l); !bytes.Equal(of(m...).Encode(), is) {
					t.Errorf("%x, and %x: not the same bytes", l, m)
				}
			}
		}
	}
}

// P21.4: shards that don't have the same numbers may have the same bytes; then they tell the same.
func TestOtherNumbersSameBytes(t *testing.T) {
	alike(t, "of one sum, and of one sum of squares", of(-10, 10, 1, 5, 6), of(-10, 10, 2, 3, 7))
}

// P21.4: what is asked, and what is written, changes nothing.
func TestEncodeChangesNothing(t *testing.T) {
	d := dice(218)
	for _, kind := range kinds() {
		l := d.list(6, kind)
		s := of(l...)
		first := s.Encode()
		alike(t, "asked", s, s)
		if !bytes.Equal(first, s.Encode()) {
			t.Errorf("%x: Encode is another one", l)
		}
	}
}

// What the tests hold Encode against is right itself.
func TestRaw(t *testing.T) {
	v, _ := new(big.Int).SetString("-340282366920938463463374607431768211457", 10)
	r := rawOf(v, -7)
	if r.sign != 1 || r.exp != 4089 || !slices.Equal(r.words, []uint32{1, 0, 0, 0, 1}) {
		t.Errorf("-(2^128 + 1) times 2^-7: %v", r)
	}
}

package shard

import (
	"bytes"
	"slices"
	"testing"

	"steelyard/api"
)

// spoil writes over bytes, and over the spare room behind them.
func spoil(b []byte) {
	b = b[:cap(b)]
	for i := range b {
		b[i] ^= 0xA5
	}
}

// R2: what Encode answers is its owner's: writing over it changes nothing that is told later, nor another answer.
func TestEncodeIsNew(t *testing.T) {
	for _, l := range append(lists(), nums(0x1p1000, tiny, -3)) {
		s := of(l...)
		first, second := s.Encode(), s.Encode()
		kept := slices.Clone(second)
		spoil(first)
		if !bytes.Equal(second, kept) {
			t.Errorf("%v: two answers share memory", l)
		}
		tells(t, s, l)
		s.Add(2)
		spoil(second)
		tells(t, s, append(slices.Clone(l), 2))
	}
}

// R2: what is handed to Decode stays as it is, the room behind it too, and may be written over afterwards.
func TestDecodeKeepsNothing(t *testing.T) {
	for _, l := range append(lists(), nums(0x1p1000, tiny, -3)) {
		b := of(l...).Encode()
		room := append(append(make([]byte, 0, len(b)+64), b...), bytes.Repeat([]byte{7}, 64)...)
		before := slices.Clone(room)
		s, e := Decode(room[:len(b)])
		if e != api.OK || !bytes.Equal(room, before) {
			t.Errorf("%v: error %d, or the bytes are not as they were", l, e)
		}
		spoil(room)
		tells(t, s, l)
		s.Add(2)
		tells(t, s, append(slices.Clone(l), 2))
		if _, e := Decode(before); e != api.ErrShard {
			t.Errorf("%v, with more behind: error %d", l, e)
		}
	}
}

// R2: what is refused stays as it is, too.
func TestRefusedBytesStay(t *testing.T) {
	b := append(ofTwo(), 1, 2, 3)
	kept := slices.Clone(b)
	for n := range len(b) + 1 {
		Decode(b[:n])
		if !bytes.Equal(b, kept) {
			t.Fatalf("of %d bytes: changed", n)
		}
	}
}

// P21.1, R2: what was merged is not shared: either goes on by itself, and words of one are none of the other's.
func TestMergeSharesNothing(t *testing.T) {
	for _, l := range append(lists(), nums(0x1p1000, tiny, -3)) {
		for _, first := range [][]float64{nil, nums(0), nums(1, -1), nums(3)} {
			a, b := of(first...), of(l...)
			a.Merge(b)
			both := slices.Concat(first, l)
			b.Add(5)
			tells(t, a, both)
			a.Add(7)
			tells(t, b, append(slices.Clone(l), 5))
			a, b = of(first...), of(l...)
			a.Merge(b)
			for _, n := range []api.Dyad{b.sum, b.squares} {
				for i := range n.Mag {
					n.Mag[i] = ^n.Mag[i]
				}
			}
			tells(t, a, both)
		}
	}
}

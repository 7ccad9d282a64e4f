package wide

import (
	"math/big"
	"slices"
	"testing"

	"steelyard/api"
)

const (
	full = 1<<32 - 1
	most = api.MaxWords
)

// exact is n's value by the library's own whole numbers, bit by bit as the chapter's words give it.
func exact(n api.Nat) *big.Int {
	b := make([]byte, 4*len(n))
	for i, w := range n {
		for j := range 4 {
			b[len(b)-1-4*i-j] = byte(w >> (8 * j))
		}
	}
	return new(big.Int).SetBytes(b)
}

func whole(s string) *big.Int {
	b, ok := new(big.Int).SetString(s, 10)
	if !ok {
		panic(s)
	}
	return b
}

// power is 2^i as words, past any limit.
func power(i int) api.Nat {
	n := make(api.Nat, i/32+1)
	n[i/32] = 1 << (i % 32)
	return n
}

// ones is 2^i - 1 as words.
func ones(i int) api.Nat {
	n := slices.Repeat(api.Nat{full}, i/32)
	if i%32 > 0 {
		n = append(n, 1<<(i%32)-1)
	}
	return n
}

// dice is a row of words that looks like none in particular, and is the same at each run.
type dice uint64

func (d *dice) roll() uint64 {
	*d = *d*6364136223846793005 + 1442695040888963407
	return uint64(*d >> 11)
}

func (d *dice) below(n int) int { return int(d.roll()>>8) % n }

// word is often one of those at which carries and guesses turn.
func (d *dice) word() uint32 {
	at := []uint32{0, 1, full, full - 1, 1 << 31, 1<<31 - 1, 1<<31 + 1}
	if i := d.below(2 * len(at)); i < len(at) {
		return at[i]
	}
	return uint32(d.roll() >> 5)
}

// nat has words words, the highest of which may be zero words, as what is handed in may.
func (d *dice) nat(words int) api.Nat {
	n := make(api.Nat, words)
	for i := range n {
		n[i] = d.word()
	}
	return n
}

// some are Nats at the chapter's edges, in their form and not, and others of a few words.
func some() []api.Nat {
	l := []api.Nat{
		nil, {}, {0}, {0, 0, 0}, {1}, {1, 0}, {2}, {3}, {5, 0, 0}, {10}, {99}, {0, 1}, {7, 1}, {0, 0, 1}, {0, 0, 1, 0},
		{1 << 31}, {0, 1 << 31}, {full}, {full, 0}, {full, full}, {full, full, full}, {full - 1, full, full}, {0, full, full}, {1, 0, full, 0},
	}
	d := dice(2)
	for words := range 9 {
		for range 3 {
			l = append(l, d.nat(words))
		}
	}
	return l
}

// great are at the limit, with and without zero words behind it.
func great() []api.Nat {
	d := dice(22)
	n := d.nat(most)
	n[most-1] = 7
	return []api.Nat{ones(32 * most), power(32*most - 1), append(power(32*(most-1)), 0, 0, 0), n}
}

// past are long.
func past() []api.Nat {
	d := dice(222)
	n := d.nat(most + 3)
	n[most+2] |= 1
	return []api.Nat{power(32 * most), append(power(32*most), 0), ones(32*most + 1), n}
}

// inForm fails unless n is in its form, and of that value.
func inForm(t *testing.T, what string, n api.Nat, want *big.Int) {
	t.Helper()
	if len(n) > 0 && n[len(n)-1] == 0 {
		t.Errorf("%s: %d words, and the last one is 0", what, len(n))
	}
	if exact(n).Cmp(want) != 0 {
		t.Errorf("%s: %v, want %v", what, exact(n), want)
	}
}

// answers fails unless the answer is that value, in its form and without an error, or, where its error is asked for, nothing beside it.
func answers(t *testing.T, what string, n api.Nat, e api.Errno, want *big.Int, wantE api.Errno) {
	t.Helper()
	if e != wantE {
		t.Errorf("%s: error %d, want %d", what, e, wantE)
		return
	}
	if e != api.OK {
		want = new(big.Int)
	}
	inForm(t, what, n, want)
}

// tooLong is ErrLong for what has more than MaxWords words.
func tooLong(n *big.Int) api.Errno {
	if n.BitLen() > 32*most {
		return api.ErrLong
	}
	return api.OK
}

package shard

import (
	"bytes"
	"math"
	"math/big"
	"slices"
	"testing"

	"steelyard/api"
)

// takes fails unless Decode takes the bytes, tells what stands in them, and goes on so.
func takes(t *testing.T, what string, b []byte) {
	t.Helper()
	s, e := Decode(b)
	if e != api.OK || s == nil {
		t.Errorf("%s: error %d", what, e)
		return
	}
	if !lawful(b) {
		t.Errorf("%s: the test's own reading refuses it", what)
	}
	if !bytes.Equal(s.Encode(), b) {
		t.Errorf("%s: Encode %v; want %v", what, s.Encode(), b)
	}
	keeps(t, what, s, read(t, b))
}

// drops fails unless Decode refuses the bytes.
func drops(t *testing.T, what string, b []byte) {
	t.Helper()
	if s, e := Decode(b); e != api.ErrShard || s != nil {
		t.Errorf("%s: %v, error %d; want nil, error %d", what, s, e, api.ErrShard)
	}
	if lawful(b) {
		t.Errorf("%s: the test's own reading takes it", what)
	}
}

// plainly is a layout of k numbers from -1 to 1 that has this sum and these squares.
func plainly(k uint64, sum, squares raw) layout {
	return layout{counts: [6]uint64{5: k}, sum: sum, squares: squares, ends: between(-1, 1)}
}

// P21.5: Decode of Encode, of lists of all kinds.
func TestDecodeOfEncode(t *testing.T) {
	d := dice(219)
	for n := range 4 {
		eachList(n, sorts(), func(l []float64) {
			s := again(t, of(l...))
			tells(t, s, l)
		})
	}
	for _, kind := range kinds() {
		for range 10 {
			l := d.list(1+d.below(20), kind)
			takes(t, "a list", of(l...).Encode())
		}
	}
}

// P21.5, 1: a byte too many, and too few at every place.
func TestTooManyAndTooFew(t *testing.T) {
	for _, l := range [][]float64{nil, nums(1, 3), nums(hole), nums(inf, 0.1), nums(0x1p1000, tiny, -3), nums(noughtBelow)} {
		b := of(l...).Encode()
		takes(t, "as it is", b)
		for n := range b {
			drops(t, "a beginning", b[:n])
			drops(t, "a byte less", slices.Delete(slices.Clone(b), n, n+1))
		}
		for _, c := range []byte{0, 1, 255} {
			drops(t, "a byte more", append(slices.Clone(b), c))
		}
		drops(t, "twice", append(slices.Clone(b), b...))
		for at := range b {
			more := slices.Insert(slices.Clone(b), at, 1)
			if s, e := Decode(more); (e == api.OK) != lawful(more) || (s == nil) != (e != api.OK) {
				t.Errorf("a byte more at %d: error %d", at, e)
			}
		}
	}
	for n := range 200 {
		drops(t, "noughts", make([]byte, n))
		drops(t, "ones", bytes.Repeat([]byte{1}, n))
		drops(t, "all bits", bytes.Repeat([]byte{255}, n))
	}
}

// P21.5: every byte of some shards, as each other byte: what is taken is what the test's own reading takes.
func TestEveryByte(t *testing.T) {
	for _, l := range [][]float64{nil, nums(1, 3), nums(-5), nums(hole, hole), nums(inf, -inf, hole), nums(noughtBelow, 0), nums(inf, 0), nums(1.5, -1.5, hole, -inf)} {
		b := of(l...).Encode()
		for at := range b {
			was := b[at]
			for c := range 256 {
				b[at] = byte(c)
				s, e := Decode(b)
				switch {
				case lawful(b) != (e == api.OK) || e != api.OK && e != api.ErrShard || (s == nil) != (e != api.OK):
					t.Errorf("%v, the byte %d as %d: error %d", l, at, c, e)
				case e == api.OK && !bytes.Equal(s.Encode(), b):
					t.Errorf("%v, the byte %d as %d: Encode %v", l, at, c, s.Encode())
				}
			}
			b[at] = was
		}
	}
}

// P21.5: some bytes of shards of all kinds, as others.
func TestSomeBytes(t *testing.T) {
	d := dice(220)
	taken := 0
	for _, kind := range kinds() {
		for range 300 {
			b := of(d.list(d.below(4), kind)...).Encode()
			for range 1 + d.below(3) {
				b[d.below(len(b))] = byte(d.of(nums(0, 1, 2, 3, 128, 240, 255, 127, float64(d.below(256)))))
			}
			s, e := Decode(b)
			if lawful(b) != (e == api.OK) || e != api.OK && e != api.ErrShard {
				t.Errorf("%v: error %d", b, e)
			}
			if e == api.OK {
				taken++
				keeps(t, "other bytes", s, read(t, b))
			}
		}
	}
	if taken < 50 {
		t.Errorf("only %d were taken", taken)
	}
}

// P21.5, 1: a sign's byte is 0 or 1; of the squares, and of noughts, it is 0.
func TestSigns(t *testing.T) {
	for c := range 256 {
		l := plainly(2, whole(1, 2), whole(5, 1))
		l.sum.sign = byte(c)
		none := layout{sum: raw{exp: 4096, sign: byte(c)}, squares: whole(0, 0)}
		none2 := layout{sum: whole(0, 0), squares: raw{exp: 4096, sign: byte(c)}}
		squares := plainly(2, whole(1, 2), whole(5, 1))
		squares.squares.sign = byte(c)
		nought := plainly(2, raw{exp: 4096, sign: byte(c)}, whole(5, 1))
		does := []func(t *testing.T, what string, b []byte){drops, takes}
		yes, one := 0, 0
		if c == 0 {
			yes = 1
		}
		if c <= 1 {
			one = 1
		}
		does[one](t, "the sum's sign", l.bytes())
		does[yes](t, "the squares' sign", squares.bytes())
		does[yes](t, "a nought's sign", none.bytes())
		does[yes](t, "a nought's sign", none2.bytes())
		does[yes](t, "the sign of a sum that is nought", nought.bytes())
	}
}

// P21.5, 1: each dyad in its form.
func TestForms(t *testing.T) {
	sum := func(r raw) []byte { return plainly(1<<30, r, whole(1, 300)).bytes() }
	squares := func(r raw) []byte { return plainly(1<<30, whole(0, 0), r).bytes() }
	for _, put := range []func(r raw) []byte{sum, squares} {
		takes(t, "one word", put(raw{exp: 4096, words: []uint32{1}}))
		takes(t, "one word, all bits", put(raw{exp: 4096, words: []uint32{math.MaxUint32}}))
		takes(t, "three words", put(raw{exp: 4096, words: []uint32{1, 0, 1}}))
		drops(t, "the word 0", put(raw{exp: 4096, words: []uint32{0}}))
		drops(t, "the word 2", put(raw{exp: 4096, words: []uint32{2}}))
		drops(t, "an even word", put(raw{exp: 4096, words: []uint32{math.MaxUint32 - 1}}))
		drops(t, "a word 0 at the high end", put(raw{exp: 4096, words: []uint32{1, 0}}))
		drops(t, "several", put(raw{exp: 4096, words: []uint32{3, 1, 0, 0}}))
		drops(t, "a word 0 at the low end", put(raw{exp: 4096, words: []uint32{0, 1}}))
		drops(t, "words 0 alone", put(raw{exp: 4096, words: []uint32{0, 0}}))
	}
	for _, exp := range []uint16{0, 1, 4095, 4097, 16, 0x1100, 1948, 3022, 65535} {
		drops(t, "a nought's Exp", sum(raw{exp: exp}))
		drops(t, "a nought's Exp, of none", layout{sum: raw{exp: exp}, squares: whole(0, 0)}.bytes())
		drops(t, "a nought's Exp, of none", layout{sum: whole(0, 0), squares: raw{exp: exp}}.bytes())
	}
	takes(t, "a sum that is nought", sum(raw{exp: 4096}))
	drops(t, "squares that are nought", squares(raw{exp: 4096}))
}

// P21.5, 1: dyads of as many words as two bytes tell: but for the fewest they are refused.
func TestManyWords(t *testing.T) {
	for _, n := range []int{66, 67, 68, 131, 132, 133, 134, 1000, 4096, 4097, 8192, 8193, 65535} {
		for _, exp := range []uint16{0, 1948, 3022, 4096, 65535} {
			long := raw{exp: exp, words: slices.Repeat([]uint32{math.MaxUint32}, n)}
			for _, k := range []uint64{1, most40} {
				for _, l := range []layout{plainly(k, long, whole(1, 2047)), plainly(k, whole(1, 0), long), plainly(k, long, long)} {
					b := l.bytes()
					if _, e := Decode(b); lawful(b) != (e == api.OK) {
						t.Errorf("%d words, Exp %d, k %d: error %d", n, exp, k, e)
					}
				}
			}
		}
	}
}

// P21.5, 2: each of the six numbers is at most MaxCount.
func TestCountsAtTheMost(t *testing.T) {
	ends := [][]uint64{nil, between(inf, inf), between(-inf, -inf), between(noughtBelow, noughtBelow), between(0, 0)}
	for i, e := range ends {
		for _, n := range []uint64{most40 - 1, most40} {
			l := layout{sum: whole(0, 0), squares: whole(0, 0), ends: e}
			l.counts[i], l.counts[5] = n, n
			takes(t, "at the most", l.bytes())
		}
		for _, n := range []uint64{most40 + 1, 1 << 41, 1 << 62, 1<<63 - 1, 1 << 63, 1<<63 + 1, math.MaxUint64, math.MaxUint64 - most40} {
			l := layout{sum: whole(0, 0), squares: whole(0, 0), ends: e}
			l.counts[i], l.counts[5] = n, n
			drops(t, "past the most", l.bytes())
			l.counts[5] = most40
			drops(t, "past the most, All at it", l.bytes())
		}
	}
	takes(t, "All at the most", plainly(most40, whole(1, 2), whole(5, 1)).bytes())
	drops(t, "All past the most", plainly(most40+1, whole(1, 2), whole(5, 1)).bytes())
	drops(t, "All far past it", plainly(1<<63, whole(1, 2), whole(5, 1)).bytes())
	drops(t, "All at the end", plainly(math.MaxUint64, whole(1, 2), whole(5, 1)).bytes())
}

// P21.5, 2: the five together are at most All.
func TestCountsTogether(t *testing.T) {
	for i := range 5 {
		for j := range 5 {
			for _, n := range []uint64{1, 7, 1 << 39} {
				l := layout{sum: whole(0, 0), squares: whole(0, 0)}
				l.counts[i] += n
				l.counts[j] += n
				l.counts[5] = 2 * n
				l.ends = l.endsOfNoughts()
				takes(t, "just All", l.bytes())
				l.counts[5]--
				drops(t, "one too many", l.bytes())
				l.counts[5] = n - 1
				drops(t, "far too many", l.bytes())
			}
		}
	}
	// Together these come round to what an int of 64 bits takes for little.
	l := layout{counts: [6]uint64{1 << 63, 1 << 63, 0, 0, 0, 1}, sum: whole(0, 0), squares: whole(0, 0), ends: between(inf, inf)}
	drops(t, "round again", l.bytes())
	l.ends = nil
	drops(t, "round again, no ends", l.bytes())
	l.counts = [6]uint64{math.MaxUint64, 1, 0, 0, 0, 0}
	drops(t, "below nought", l.bytes())
}

// endsOfNoughts are the ends of a layout without plain numbers.
func (l layout) endsOfNoughts() []uint64 {
	var all []float64
	for i, x := range nums(inf, -inf, noughtBelow, 0) {
		if l.counts[i+1] > 0 {
			all = append(all, x)
		}
	}
	if all == nil {
		return nil
	}
	return []uint64{outdone(all, -1).bits, outdone(all, 1).bits}
}

// P21.5, 3: without plain ones the sum and the squares are nought.
func TestSumsOfNoughts(t *testing.T) {
	for _, l := range []layout{
		{}, {counts: [6]uint64{5: 3, 0: 3}}, {counts: [6]uint64{1: 2, 5: 2}}, {counts: [6]uint64{3: 1, 5: 1}}, {counts: [6]uint64{0: 1, 1: 1, 2: 1, 3: 1, 4: 1, 5: 5}},
	} {
		l.ends = l.endsOfNoughts()
		l.sum, l.squares = whole(0, 0), whole(0, 0)
		takes(t, "both nought", l.bytes())
		l.squares = whole(1, -2148)
		drops(t, "squares of none", l.bytes())
		l.sum = whole(1, -1074)
		drops(t, "both of none", l.bytes())
		l.squares = whole(0, 0)
		drops(t, "a sum of none", l.bytes())
	}
}

// P21.5, 3: the squares are above nought, below k times 2^2048, their Exp at least -2148.
func TestSquares(t *testing.T) {
	for _, k := range []int64{1, 2, 3, 5, 1 << 20, most40 - 1, most40} {
		bound := new(big.Int).Lsh(big.NewInt(k), 2048+2148)
		under := new(big.Int).Sub(bound, big.NewInt(1))
		put := func(q raw) []byte { return plainly(uint64(k), whole(0, 0), q).bytes() }
		takes(t, "just below", put(rawOf(under, -2148)))
		drops(t, "just there", put(rawOf(bound, -2148)))
		drops(t, "just above", put(rawOf(new(big.Int).Add(bound, big.NewInt(1)), -2148)))
		drops(t, "below nought", put(rawOf(new(big.Int).Neg(under), -2148)))
		drops(t, "below nought, and small", put(whole(-1, -2148)))
		drops(t, "nought", put(whole(0, 0)))
		takes(t, "the least", put(whole(1, -2148)))
		takes(t, "the least Exp", put(whole(12345, -2148)))
		drops(t, "below the least", put(whole(1, -2149)))
		drops(t, "below the least Exp", put(whole(12345, -2149)))
		drops(t, "far below it", put(raw{exp: 0, words: []uint32{1}}))
		drops(t, "the greatest Exp", put(raw{exp: 65535, words: []uint32{1}}))
	}
}

// P21.5, 3: the sum is nought, or its Exp at least -1074.
func TestSumExp(t *testing.T) {
	for _, k := range []uint64{1, 2, most40} {
		put := func(s raw) []byte { return plainly(k, s, whole(1, 200)).bytes() }
		for _, n := range []int64{1, -1, 3, -12345} {
			takes(t, "the least Exp", put(whole(n, -1074)))
			drops(t, "below it", put(whole(n, -1075)))
			drops(t, "far below it", put(whole(n, -2148)))
			drops(t, "at its end", put(whole(n, -4096)))
		}
		takes(t, "the least Exp, a great one", put(power(90, 1, -1074)))
		drops(t, "below it, a great one", put(power(90, 1, -1075)))
		takes(t, "nought", put(whole(0, 0)))
	}
}

// P21.5, 3: the sum's square is at most k times the squares.
func TestSumAndSquares(t *testing.T) {
	for _, k := range []int64{1, 2, 3, 4, 49, 1 << 33, most40 - 1, most40} {
		for _, exp := range []int{-1074, -1000, -300, 0, 77, 900} {
			for _, n := range []int64{1, 3, 5, 999} {
				// k numbers of n times 2^exp: the sum's square is just k times the squares.
				one := big.NewInt(n)
				sum := new(big.Int).Mul(one, big.NewInt(k))
				squares := new(big.Int).Mul(new(big.Int).Mul(one, one), big.NewInt(k))
				if exp >= 900 && k > 1<<35 {
					continue
				}
				nearBound(t, uint64(k), sum, squares, exp)
			}
		}
	}
	// The greatest of all: sums just below k times 2^1024.
	for _, k := range []int64{1, 2, 3, most40 - 1, most40} {
		top := new(big.Int).Sub(new(big.Int).Lsh(big.NewInt(k), 1024+1074), big.NewInt(1))
		most := new(big.Int).Sub(new(big.Int).Lsh(big.NewInt(k), 2048+2148), big.NewInt(1))
		takes(t, "the greatest sum", plainly(uint64(k), rawOf(top, -1074), rawOf(most, -2148)).bytes())
		takes(t, "the least sum", plainly(uint64(k), rawOf(new(big.Int).Neg(top), -1074), rawOf(most, -2148)).bytes())
		top.Add(top, big.NewInt(1))
		drops(t, "past the greatest sum", plainly(uint64(k), rawOf(top, -1074), rawOf(most, -2148)).bytes())
		top.Lsh(top, 1000)
		drops(t, "far past it", plainly(uint64(k), rawOf(top, -1074), rawOf(most, -2148)).bytes())
	}
}

// nearBound is about a sum, in units of 2^exp, whose square is just k times the squares, in units of 2^(2 exp).
func nearBound(t *testing.T, k uint64, sum, squares *big.Int, exp int) {
	t.Helper()
	for _, sign := range []int64{1, -1} {
		s := new(big.Int).Mul(sum, big.NewInt(sign))
		takes(t, "just at it", plainly(k, rawOf(s, exp), rawOf(squares, 2*exp)).bytes())
		drops(t, "the sum a step further", plainly(k, rawOf(new(big.Int).Add(s, big.NewInt(sign)), exp), rawOf(squares, 2*exp)).bytes())
		takes(t, "the sum a step nearer", plainly(k, rawOf(new(big.Int).Sub(s, big.NewInt(sign)), exp), rawOf(squares, 2*exp)).bytes())
		takes(t, "the squares a step greater", plainly(k, rawOf(s, exp), rawOf(new(big.Int).Add(squares, big.NewInt(1)), 2*exp)).bytes())
		less := new(big.Int).Sub(squares, big.NewInt(1))
		drops(t, "the squares a step less", plainly(k, rawOf(s, exp), rawOf(less, 2*exp)).bytes())
		// By the least that there is.
		fine := new(big.Int).Lsh(squares, uint(2*exp+2148))
		drops(t, "the squares least less", plainly(k, rawOf(s, exp), rawOf(fine.Sub(fine, big.NewInt(1)), -2148)).bytes())
		far := new(big.Int).Lsh(new(big.Int).Abs(s), uint(exp+1074))
		far.Add(far, big.NewInt(1)).Mul(far, big.NewInt(sign))
		drops(t, "the sum least more", plainly(k, rawOf(far, -1074), rawOf(squares, 2*exp)).bytes())
	}
}

// endsOf are numbers of every kind that Least and Most may be tried with.
func endsOf() []float64 {
	return append(nums(-inf, -greatest, -1, -tiny, noughtBelow, 0, tiny, 1, greatest, inf), odds()...)
}

// P21.5, 4 and 5: Least and Most of every kind, beside numbers of every kind.
func TestEnds(t *testing.T) {
	count := 0
	for set := range 64 {
		l := layout{sum: whole(0, 0), squares: whole(0, 0)}
		for i := range 5 {
			l.counts[i] = uint64(set>>i&1) * uint64(i+1)
			l.counts[5] += l.counts[i]
		}
		if set>>5 == 1 {
			l.counts[5] += 2
			l.sum, l.squares = whole(1, -3), whole(7, 0)
		}
		if l.counts[5] == l.counts[0] {
			takes(t, "no ends", l.bytes())
			l.ends = between(hole, hole)
			drops(t, "ends of none", l.bytes())
			continue
		}
		drops(t, "without ends", l.bytes())
		for _, x := range endsOf() {
			l.ends = []uint64{hex(x)}
			drops(t, "one end", l.bytes())
			for _, y := range endsOf() {
				l.ends = between(x, y)
				if may(l, x, y) {
					count++
					takes(t, "ends", l.bytes())
				} else {
					drops(t, "ends", l.bytes())
				}
			}
		}
	}
	if count == 0 {
		t.Error("none was taken")
	}
}

// may is points 4 and 5 once more, by what numbers there could be.
func may(l layout, x, y float64) bool {
	if x != x || y != y || x > y || x == 0 && y == 0 && hex(x) == 0 && hex(y) != 0 {
		return false
	}
	noughts := l.plain() == 0
	low, high := nums(-greatest, -1, -tiny, noughtBelow, 0, tiny, 1, greatest), nums(-greatest, -1, -tiny, noughtBelow, 0, tiny, 1, greatest)
	if fixed := l.endsOfNoughts(); fixed != nil {
		if noughts || l.counts[2] > 0 {
			low = nums(math.Float64frombits(fixed[0]))
		}
		if noughts || l.counts[1] > 0 {
			high = nums(math.Float64frombits(fixed[1]))
		}
	}
	has := func(all []float64, x float64) bool {
		return slices.ContainsFunc(all, func(y float64) bool { return hex(x) == hex(y) })
	}
	return has(low, x) && has(high, y)
}

// What else would have to be so of numbers is not asked: such shards tell what stands in them, and go on.
func TestNotAsked(t *testing.T) {
	takes(t, "a sum beyond its ends", plainly(2, whole(-1, 2), whole(5, 1)).bytes())
	l := plainly(3, whole(100, 0), power(500, 1, -2148))
	takes(t, "squares beyond the ends", l.bytes())
	l.ends = between(1, 3)
	l.sum = whole(-5, 0)
	takes(t, "a sum below nought of numbers above it", l.bytes())
	l.counts[3], l.counts[4] = 1, 1
	takes(t, "noughts below the least", l.bytes())
	takes(t, "an odd square of a word", plainly(1, whole(0, 0), whole(2, 0)).bytes())
	takes(t, "one number with a sum that is not it", layout{counts: [6]uint64{5: 1}, sum: whole(1, 0), squares: whole(3, 0), ends: between(7, 8)}.bytes())
}

// atTheEnds are lawful bytes at the ends of what is taken, many of which no numbers have.
func atTheEnds() [][]byte {
	var all [][]byte
	for _, k := range []int64{1, 2, 3, 1 << 38} {
		top := new(big.Int).Sub(new(big.Int).Lsh(big.NewInt(k), 1024+1074), big.NewInt(1))
		most := new(big.Int).Sub(new(big.Int).Lsh(big.NewInt(k), 2048+2148), big.NewInt(1))
		all = append(all,
			plainly(uint64(k), rawOf(top, -1074), rawOf(most, -2148)).bytes(),
			plainly(uint64(k), rawOf(top.Neg(top), -1074), rawOf(most, -2148)).bytes(),
			plainly(uint64(k), whole(0, 0), whole(1, -2148)).bytes(),
			plainly(uint64(k), whole(-k, 0), whole(k, 0)).bytes(),
		)
	}
	return append(all, of(hole).Encode(), of(inf).Encode(), of(-inf, hole, noughtBelow).Encode(), ofNone(), ofTwo())
}

// P21.5: what was read goes on by what stood in it, under Add and under Merge, and what comes of it can be read again.
func TestWhatWasReadGoesOn(t *testing.T) {
	for _, b := range atTheEnds() {
		takes(t, "at the ends", b)
		s, e := Decode(b)
		if e != api.OK {
			t.Fatalf("error %d", e)
		}
		page := read(t, b)
		for _, x := range nums(1, -greatest, tiny, hole, inf, noughtBelow, -inf, 0, greatest) {
			s.Add(x)
			page.add(x)
			keeps(t, "added", s, page)
			keeps(t, "and read again", again(t, s), page)
		}
		for _, c := range atTheEnds() {
			s, _ := Decode(b)
			o, _ := Decode(c)
			page, other := read(t, b), read(t, c)
			if e := s.Merge(o); e != api.OK {
				t.Errorf("Merge: error %d", e)
			}
			page.merge(other)
			keeps(t, "merged", s, page)
			keeps(t, "the other one stays", o, other)
			keeps(t, "and read again", again(t, s), page)
		}
	}
}

// P21.5: what was read doubles up to MaxCount, and is refused past it.
func TestWhatWasReadDoubles(t *testing.T) {
	for _, b := range atTheEnds() {
		s, _ := Decode(b)
		page := read(t, b)
		for s.Count() > 0 && s.Count() <= most40/2 {
			if e := s.Merge(s); e != api.OK {
				t.Fatalf("error %d", e)
			}
			page.merge(page)
			again(t, s)
		}
		keeps(t, "doubled", s, page)
		if s.Count() > 0 {
			if e := s.Merge(s); e != api.ErrLong {
				t.Errorf("past the most: error %d", e)
			}
			keeps(t, "refused", s, page)
		}
	}
}

package policy

import (
	"math"
	"slices"
	"testing"

	"steelyard/api"
)

// P6.1
func TestPlain(t *testing.T) {
	if p := Plain(); p != (api.Policy{NaN: 0, Inf: 0}) || p.NaN != api.Carry || p.Inf != api.Carry {
		t.Errorf("Plain: %v", p)
	}
	if !May(Plain()) {
		t.Errorf("Plain may not be")
	}
}

// P6.1: the nine may be; nothing else, on either side, in either of the two.
func TestMay(t *testing.T) {
	for _, p := range policies() {
		if !May(p) {
			t.Errorf("%v may not be", p)
		}
	}
	for _, p := range strangers() {
		if May(p) {
			t.Errorf("%v may be", p)
		}
	}
	may := 0
	for n := -9; n < 10; n++ {
		for i := -9; i < 10; i++ {
			if May(api.Policy{NaN: n, Inf: i}) {
				may++
			}
		}
	}
	if may != 9 {
		t.Errorf("%d policies may be", may)
	}
}

// Example 1.
func TestSiftExamples(t *testing.T) {
	l := []float64{1, odd, minus, inf, 2.5}
	left, s := []float64{1, minus, 2.5}, api.Specials{NaN: 1, Up: 1, Minus: 1, All: 5}
	sifted(t, l, api.Policy{NaN: api.Carry, Inf: api.Carry}, left, s, api.OK)
	sifted(t, l, api.Policy{NaN: api.Pass, Inf: api.Pass}, left, s, api.OK)
	refused(t, l, api.Policy{NaN: api.Refuse, Inf: api.Refuse}, api.ErrNaN)
	refused(t, l, api.Policy{NaN: api.Pass, Inf: api.Refuse}, api.ErrEndless)
	refused(t, l, api.Policy{NaN: 3, Inf: 0}, api.ErrArg)
	for _, p := range policies() {
		sifted(t, nil, p, nil, api.Specials{}, api.OK)
		sifted(t, []float64{}, p, nil, api.Specials{}, api.OK)
		sifted(t, l[2:2], p, nil, api.Specials{}, api.OK)
	}
}

// wanted is what P6.2 says of a list by a policy that may be, and the list not too long.
func wanted(l []float64, p api.Policy) ([]float64, api.Specials, api.Errno) {
	left, s := told(l)
	switch {
	case s.NaN > 0 && p.NaN == api.Refuse:
		return nil, api.Specials{}, api.ErrNaN
	case s.Up+s.Down > 0 && p.Inf == api.Refuse:
		return nil, api.Specials{}, api.ErrEndless
	}
	return left, s, api.OK
}

// P6.2: each number alone, by each policy: a NaN of whatever bits, either infinity, and the finite ones with their own bits.
func TestSiftOfOne(t *testing.T) {
	for _, p := range policies() {
		for _, x := range odds() {
			if p.NaN == api.Refuse {
				refused(t, []float64{x}, p, api.ErrNaN)
			} else {
				sifted(t, []float64{x}, p, nil, api.Specials{NaN: 1, All: 1}, api.OK)
			}
		}
		if p.Inf == api.Refuse {
			refused(t, []float64{inf}, p, api.ErrEndless)
			refused(t, []float64{-inf}, p, api.ErrEndless)
		} else {
			sifted(t, []float64{inf}, p, nil, api.Specials{Up: 1, All: 1}, api.OK)
			sifted(t, []float64{-inf}, p, nil, api.Specials{Down: 1, All: 1}, api.OK)
		}
		sifted(t, []float64{0}, p, []float64{0}, api.Specials{Plus: 1, All: 1}, api.OK)
		sifted(t, []float64{minus}, p, []float64{minus}, api.Specials{Minus: 1, All: 1}, api.OK)
		for _, x := range finites()[2:] {
			sifted(t, []float64{x}, p, []float64{x}, api.Specials{All: 1}, api.OK)
		}
	}
}

// P6.2: what is left is in its order, and what is carried is counted as what is passed over.
func TestSiftOfMany(t *testing.T) {
	all := slices.Concat(odds(), finites(), []float64{inf, -inf, -inf})
	d := dice(62)
	for n := range 300 {
		l := d.list(n)
		if n%10 == 0 {
			l = append(l, all...)
		}
		if n%3 == 0 {
			l = slices.DeleteFunc(l, math.IsNaN)
		}
		for _, p := range policies() {
			left, s, e := wanted(l, p)
			sifted(t, l, p, left, s, e)
		}
	}
}

// P6.2: ErrArg, ErrLong, ErrNaN, ErrEndless, in this order, wherever in the list the cause stands.
func TestSiftRefusesInOrder(t *testing.T) {
	long := make([]float64, api.MaxList+1)
	for i := range long {
		long[i] = []float64{inf, odd, -inf, 1}[i%4]
	}
	strict := api.Policy{NaN: api.Refuse, Inf: api.Refuse}
	for _, p := range strangers() {
		for _, l := range [][]float64{nil, {1}, {odd}, {inf}, {odd, inf}, long} {
			refused(t, l, p, api.ErrArg)
		}
	}
	for _, p := range policies() {
		refused(t, long, p, api.ErrLong)
	}
	for _, l := range [][]float64{{odd, inf}, {inf, odd}, {-inf, 1, odd}, {inf, -inf, 0, odd, 2}, long[:api.MaxList]} {
		refused(t, l, strict, api.ErrNaN)
		refused(t, l, api.Policy{NaN: api.Refuse, Inf: api.Carry}, api.ErrNaN)
		refused(t, l, api.Policy{NaN: api.Refuse, Inf: api.Pass}, api.ErrNaN)
		refused(t, l, api.Policy{NaN: api.Carry, Inf: api.Refuse}, api.ErrEndless)
		refused(t, l, api.Policy{NaN: api.Pass, Inf: api.Refuse}, api.ErrEndless)
	}
	for _, l := range [][]float64{{inf, -inf}, {1, inf}, {-inf, 1}} {
		refused(t, l, strict, api.ErrEndless)
	}
}

// P6.2: 65536 numbers are taken, one more is refused, whatever they are.
func TestSiftOfLongLists(t *testing.T) {
	d := dice(63)
	mixed := d.list(65537)
	clean := slices.DeleteFunc(slices.Clone(mixed), func(x float64) bool { return x-x != 0 })
	for len(clean) < 65537 {
		clean = append(clean, clean[:min(len(clean), 65537-len(clean))]...)
	}
	same := func(x float64) []float64 { return slices.Repeat([]float64{x}, 65537) }
	for _, l := range [][]float64{mixed, clean, same(0), same(minus), same(odd), same(inf), same(-inf), same(greatest)} {
		for _, p := range policies() {
			refused(t, l, p, api.ErrLong)
			for _, n := range []int{65536, 65535} {
				left, s, e := wanted(l[:n], p)
				sifted(t, l[:n], p, left, s, e)
			}
		}
	}
}

// R2: the list, and the room behind it, are left as they were, refused or not.
func TestSiftLeavesItsList(t *testing.T) {
	d := dice(64)
	for n := range 40 {
		whole := slices.Concat(d.list(n), odds())
		was := hexes(whole)
		for _, p := range append(policies(), strangers()...) {
			Sift(whole[:n], p)
			if !slices.Equal(hexes(whole), was) {
				t.Fatalf("Sift of %d numbers by %v changed them", n, p)
			}
		}
	}
}

// R2: what is answered is its owner's, the room behind it too.
func TestSiftAnswersNewMemory(t *testing.T) {
	scrawl := func(l []float64) {
		l = l[:cap(l)]
		for i := range l {
			l[i] = 77
		}
	}
	d := dice(65)
	for n := range 40 {
		whole := slices.Concat(d.list(n), finites())
		was := hexes(whole)
		a, _, _ := Sift(whole[:n], Plain())
		b, _, _ := Sift(whole[:n], Plain())
		left := hexes(b)
		scrawl(a)
		if !slices.Equal(hexes(whole), was) || !slices.Equal(hexes(b), left) {
			t.Fatalf("the answer for %d numbers is not its owner's alone", n)
		}
		// What is handed in may change afterwards, too.
		scrawl(whole)
		if !slices.Equal(hexes(b), left) {
			t.Fatalf("the answer for %d numbers hangs on the list", n)
		}
	}
}

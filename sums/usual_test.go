package sums

import (
	"testing"
)

// P10.2 to P10.5: of none +0; of one, and of two and three of every kind, step by step.
func TestFew(t *testing.T) {
	usual(t, nil)
	usual(t, []float64{})
	for _, x := range append(edges(), odds()...) {
		usual(t, []float64{x})
	}
	eachList(2, append(append(edges(), odds()...), inf, -inf), func(l []float64) { usual(t, l) })
	eachList(3, few(), func(l []float64) { usual(t, l) })
	eachList(4, []float64{noughtBelow, 1, -0x1p-53, 0x1p53, -greatest, inf}, func(l []float64) { usual(t, l) })
}

// P10.2 to P10.5: lengths at powers of two, and on either side of them; numbers of like sizes, and of all.
func TestLengths(t *testing.T) {
	d := dice(103)
	for _, n := range lengths() {
		usual(t, d.near(n))
		usual(t, d.list(n))
		usual(t, often(n, 0.1))
		usual(t, often(n, noughtBelow))
	}
	for n := range 200 {
		usual(t, d.near(n))
		usual(t, append(d.list(n), d.of(few())))
	}
}

// P10.2 to P10.5: lists of any length, also above MaxList.
func TestAnyLength(t *testing.T) {
	d := dice(104)
	for _, n := range []int{longest - 1, longest, longest + 1, 2*longest + 3} {
		usual(t, d.near(n))
	}
	l := often(3*longest, 1)
	for _, x := range []float64{Running(l), Halving(l), Kahan(l), Neumaier(l)} {
		same(t, "so many ones", x, 3*longest)
	}
}

// P10.2, P10.3: a nought alone keeps its sign; P10.4, P10.5: there it goes to the +0 that they start with.
func TestNoughts(t *testing.T) {
	for n := 1; n < 20; n++ {
		l := often(n, noughtBelow)
		same(t, "Running", Running(l), noughtBelow)
		same(t, "Halving", Halving(l), noughtBelow)
		same(t, "Kahan", Kahan(l), 0)
		same(t, "Neumaier", Neumaier(l), 0)
		for i := range l {
			l[i] = 0
			same(t, "Running, a +0 among them", Running(l), 0)
			same(t, "Halving, a +0 among them", Halving(l), 0)
			l[i] = noughtBelow
		}
	}
}

// P10.2 to P10.5: a NaN of whatever bits is the one that is answered, wherever it stands; so is the one that infinities of both signs make.
func TestNaNs(t *testing.T) {
	nan := func(l []float64) {
		t.Helper()
		for _, x := range []float64{Running(l), Halving(l), Kahan(l), Neumaier(l)} {
			same(t, "a NaN", x, hole)
		}
	}
	for _, x := range odds() {
		nan([]float64{x})
		for n := 2; n < 12; n++ {
			for i := range n {
				l := often(n, 1)
				l[i] = x
				nan(l)
				l[(i+1)%n] = inf
				nan(l)
			}
		}
	}
	for n := 2; n < 12; n++ {
		for i := range n - 1 {
			l := often(n, 1)
			l[i], l[n-1] = inf, -inf
			nan(l)
		}
	}
}

// An infinity stays one by the ways that keep nothing beside; those that keep what is lost take it from itself. In both, what follows counts: Kahan's c is a NaN only for the next number.
func TestInfinities(t *testing.T) {
	for _, x := range []float64{inf, -inf} {
		for _, l := range [][]float64{{x}, {x, 1}, {1, x}, {x, x}, {1, x, -greatest}} {
			same(t, "Running", Running(l), x)
			same(t, "Halving", Halving(l), x)
			same(t, "Neumaier", Neumaier(l), hole)
		}
		same(t, "Kahan, alone", Kahan([]float64{x}), x)
		same(t, "Kahan, behind", Kahan([]float64{1, x}), x)
		same(t, "Kahan, ahead", Kahan([]float64{x, 1}), hole)
	}
}

// Steps that overflow: no later step brings the sum back; halves that lie otherwise do not overflow.
func TestOverflow(t *testing.T) {
	l := []float64{greatest, greatest, -greatest, -greatest}
	same(t, "Running", Running(l), inf)
	same(t, "Halving", Halving(l), hole)
	same(t, "Kahan", Kahan(l), hole)
	same(t, "Neumaier", Neumaier(l), hole)
	l = []float64{greatest, -greatest, greatest, -greatest}
	same(t, "Running, in turn", Running(l), 0)
	same(t, "Halving, in turn", Halving(l), 0)
	l = []float64{-greatest, 0x1p1023, 0x1p1023, greatest}
	same(t, "Running, within", Running(l), inf)
	same(t, "Halving, beyond in one half", Halving(l), inf)
	same(t, "half a step beyond", Running([]float64{greatest, 0x1p970}), inf)
	same(t, "less", Running([]float64{greatest, 0x1.fffffffffffffp969}), greatest)
}

// P10.3: the halves are cut at the greatest power of two below n: where the pieces lie shows in what is lost.
func TestHalvingParts(t *testing.T) {
	big := 0x1p53
	for _, c := range []struct {
		l               []float64
		running, halved float64
	}{
		{[]float64{big, 1, 1}, big, big},                       // (big 1) 1
		{[]float64{1, 1, big}, big + 2, big + 2},               // (1 1) big
		{[]float64{big, 1, 1, 1}, big, big + 2},                // (big 1) (1 1)
		{[]float64{1, 1, big, 1}, big + 4, big + 2},            // (1 1) (big 1)
		{[]float64{big, 1, 1, 1, 1}, big, big + 4},             // ((big 1) (1 1)) 1: of two as near the even one
		{[]float64{1, 1, 1, 1, big}, big + 4, big + 4},         // ((1 1) (1 1)) big
		{[]float64{big, 1, 1, 1, 1, 1}, big, big + 4},          // ((big 1) (1 1)) (1 1)
		{[]float64{big, 1, 1, 1, 1, 1, 1}, big, big + 4},       // ((big 1) (1 1)) ((1 1) 1)
		{[]float64{big, 1, 1, 1, 1, 1, 1, 1}, big, big + 6},    // ((big 1) (1 1)) ((1 1) (1 1))
		{[]float64{1, big, 1, 1, 1, 1, 1, 1, 1}, big, big + 8}, // the same eight, and 1: of two as near the even one
	} {
		same(t, "Running", Running(c.l), c.running)
		same(t, "Halving", Halving(c.l), c.halved)
		usual(t, c.l)
	}
}

// Halving and Running part at most lists; other cuts than the chapter's, too, are to be seen at these.
func TestHalvingIsNoOtherWay(t *testing.T) {
	d := dice(105)
	seen := map[string]int{}
	for n := range 300 {
		l := d.near(n)
		x := Halving(l)
		same(t, "Halving", x, inSteps{}.halving(l))
		for name, cut := range map[string]func(n int) int{
			"in the midst, less":     func(n int) int { return n / 2 },
			"in the midst, more":     func(n int) int { return (n + 1) / 2 },
			"a power of two, behind": func(n int) int { return n - power(n) },
			"one behind":             func(n int) int { return n - 1 },
			"one ahead":              func(int) int { return 1 },
		} {
			if !sameBits(x, cutBy(l, cut)) {
				seen[name]++
			}
		}
	}
	if len(seen) != 5 {
		t.Errorf("other cuts are not seen: %v", seen)
	}
}

// power is the greatest power of two below n.
func power(n int) int {
	k := 1
	for 2*k < n {
		k *= 2
	}
	return k
}

func cutBy(l []float64, cut func(n int) int) float64 {
	switch len(l) {
	case 0:
		return 0
	case 1:
		return l[0]
	}
	k := cut(len(l))
	return stepped(cutBy(l[:k], cut), cutBy(l[k:], cut))
}

// P10.4, P10.5: each step is rounded by itself. Each place where two could be put together, or one left out, shows itself among these lists; there the answer is that of single steps.
func TestStepsStandAlone(t *testing.T) {
	d := dice(106)
	seen := map[string]int{}
	// What is kept beside 2^53 makes it a tie: what is lost of 1 would break it.
	lists := [][]float64{{0x1p53, 1, 0x1p-60}}
	for range 3000 {
		var l []float64
		for range 3 + d.below(12) {
			l = append(l, d.sized(-70, 70))
		}
		lists = append(lists, l)
	}
	for _, l := range lists {
		usual(t, l)
		for name, x := range kahans(l) {
			if !sameBits(x, Kahan(l)) {
				seen[name]++
			}
		}
		for name, x := range neumaiers(l) {
			if !sameBits(x, Neumaier(l)) {
				seen[name]++
			}
		}
	}
	for _, name := range []string{"y in t", "t in u", "u in c", "not c", "c in the end", "s in the end", "x first", "s first"} {
		if seen[name] == 0 {
			t.Errorf("%s: no list shows it", name)
		}
	}
}

// kahans are ways that P10.4 is not: two steps in one, or one left out.
func kahans(l []float64) map[string]float64 {
	all := map[string]float64{}
	for _, name := range []string{"y in t", "t in u", "u in c", "not c"} {
		s, c := 0.0, 0.0
		for _, x := range l {
			y := lessened(x, c)
			t := stepped(s, y)
			u := lessened(t, s)
			switch name {
			case "y in t":
				t = once(s, x, -c)
				u = lessened(t, s)
			case "t in u":
				u = once(s, y, -s)
			}
			switch c = lessened(u, y); name {
			case "u in c":
				c = once(t, -s, -y)
			case "not c":
				c = 0
			}
			s = t
		}
		all[name] = s
	}
	return all
}

// neumaiers are ways that P10.5 is not: two steps in one, or always one side of what it asks.
func neumaiers(l []float64) map[string]float64 {
	all := map[string]float64{}
	for _, name := range []string{"c in the end", "s in the end", "x first", "s first"} {
		s, c := 0.0, 0.0
		last, saved := 0.0, []float64{0}
		for _, x := range l {
			t := stepped(s, x)
			great, less := x, s
			if name == "s first" || name != "x first" && absNotBelow(s, x) {
				great, less = s, x
			}
			v := stepped(lessened(great, t), less)
			last, saved = s, []float64{c, v}
			c = stepped(c, v)
			s = t
		}
		switch all[name] = stepped(s, c); name {
		case "c in the end":
			all[name] = once(append(saved, s)...)
		case "s in the end":
			all[name] = once(last, l[len(l)-1], c)
		}
	}
	return all
}

func absNotBelow(s, x float64) bool { return s >= x && s >= -x || -s >= x && -s >= -x }

// P10.5: where |s| is just as great as |x|, of like and of unlike signs, with and without what was lost before.
func TestNeumaierAlikeSizes(t *testing.T) {
	for _, x := range edges() {
		for _, l := range [][]float64{{x, x}, {x, -x}, {x, x, x + x}, {x, -x, x}, {x, x, -x - x, 1}, {1, 0x1p-60, -1, x}, {x, 0x1p-60, -x}} {
			usual(t, l)
		}
	}
	same(t, "saved before", Neumaier([]float64{1, 0x1p-60, -1}), 0x1p-60)
	same(t, "saved, and lost there", Neumaier([]float64{0x1p53, 1, 0x1p-60}), 0x1p53)
	same(t, "saved twice", Neumaier([]float64{0x1p-60, 1, 0x1p-60, -1}), 0x1p-59)
}

// Kahan loses what Neumaier keeps: a number that is greater than the sum.
func TestKahanAndNeumaierPart(t *testing.T) {
	l := []float64{1, 0x1p100, -0x1p100}
	same(t, "Kahan", Kahan(l), 0)
	same(t, "Neumaier", Neumaier(l), 1)
	l = append([]float64{0x1p53}, often(1001, 1)...)
	same(t, "Running", Running(l), 0x1p53)
	same(t, "Kahan, ones behind", Kahan(l), 0x1p53+1000)
	same(t, "Neumaier, ones behind", Neumaier(l), 0x1p53+1000)
}

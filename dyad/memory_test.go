package dyad

import (
	"slices"
	"testing"

	"steelyard/api"
)

// roomy is d with spare room behind its words that holds words of its own.
func roomy(d api.Dyad) api.Dyad {
	room := append(slices.Clone(d.Mag), 0xAAAAAAAA, 0xBBBBBBBB, 0xCCCCCCCC)
	return api.Dyad{Neg: d.Neg, Mag: room[:len(d.Mag)], Exp: d.Exp}
}

// calls are all that take Dyads, each telling the Dyads that it answers.
func calls() map[string]func(a, b api.Dyad) []api.Dyad {
	one := func(call func(a, b api.Dyad) (api.Dyad, api.Errno)) func(a, b api.Dyad) []api.Dyad {
		return func(a, b api.Dyad) []api.Dyad {
			d, _ := call(a, b)
			return []api.Dyad{d}
		}
	}
	return map[string]func(a, b api.Dyad) []api.Dyad{
		"Make": one(func(a, _ api.Dyad) (api.Dyad, api.Errno) { return Make(a.Neg, a.Mag, a.Exp) }),
		"Of":   one(func(a, _ api.Dyad) (api.Dyad, api.Errno) { return Of(float64(len(a.Mag)) - 2.5) }),
		"Int":  one(func(a, _ api.Dyad) (api.Dyad, api.Errno) { return Int(a.Exp + 1<<40), api.OK }),
		"Add":  one(Add),
		"Sub":  one(Sub),
		"Mul":  one(Mul),
		"Neg":  one(func(a, _ api.Dyad) (api.Dyad, api.Errno) { return Neg(a), api.OK }),
		"looks": func(a, b api.Dyad) []api.Dyad {
			Cmp(a, b)
			Sign(a)
			for mode := range 5 {
				Round(a, mode)
				Round32(a, mode)
			}
			return nil
		},
	}
}

// copies are the words of each, and of its spare room.
func copies(l []api.Dyad) []api.Nat {
	var out []api.Nat
	for _, d := range l {
		out = append(out, slices.Clone(d.Mag[:cap(d.Mag)]))
	}
	return out
}

func alike(a, b []api.Nat) bool {
	return slices.EqualFunc(a, b, func(x, y api.Nat) bool { return slices.Equal(x, y) })
}

// R2: what is handed in reads as before, the room behind it too; what is answered shares no memory with it, with another answer, or with the answer of another call.
func TestMemory(t *testing.T) {
	for name, call := range calls() {
		for _, x := range some() {
			for _, y := range []api.Dyad{{}, dy(true, 4, 0, 0), two(0), dy(true, 0, 1, 0), dy(false, -40, full, 7), dy(true, 3, 2, 0, 1<<31), x, less(x)} {
				apart(t, name, call, x, y)
			}
		}
		for _, x := range append(great(), past()...) {
			apart(t, name, call, x, two(0))
			apart(t, name, call, api.Dyad{Exp: 3}, x)
		}
	}
}

func apart(t *testing.T, name string, call func(a, b api.Dyad) []api.Dyad, x, y api.Dyad) {
	t.Helper()
	a, b := roomy(x), roomy(y)
	before := copies([]api.Dyad{a, b})
	answers := append(call(a, b), call(a, b)...)
	if !alike(copies([]api.Dyad{a, b}), before) {
		t.Errorf("%s changed %s or %s", name, brief(x), brief(y))
	}
	for i, d := range answers {
		rest := slices.Concat(answers[:i], answers[i+1:], []api.Dyad{a, b})
		kept := copies(rest)
		for j := range d.Mag[:cap(d.Mag)] {
			d.Mag[:cap(d.Mag)][j] = 0xDEADBEEF
		}
		if !alike(copies(rest), kept) {
			t.Errorf("%s of %s and %s: answer %d shares memory", name, brief(x), brief(y), i)
		}
	}
}

// R2: the same Dyad on both sides.
func TestBothSidesAlike(t *testing.T) {
	for _, x := range some() {
		a := roomy(x)
		for name, call := range calls() {
			apartOnes, together := call(a, roomy(x)), call(a, a)
			if !slices.EqualFunc(apartOnes, together, same) {
				t.Errorf("%s: %v of one Dyad twice, %v of two alike", name, together, apartOnes)
			}
		}
	}
}

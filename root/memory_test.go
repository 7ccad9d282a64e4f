package root

import (
	"slices"
	"testing"

	"steelyard/api"
)

// roomy is d with spare room behind its words that holds words of its own.
func roomy(d api.Dyad) api.Dyad {
	room := append(slices.Clone(d.Mag), 0xAAAAAAAA, 0xBBBBBBBB, 0xCCCCCCCC)
	return api.Dyad{Neg: d.Neg, Mag: room[:len(d.Mag)], Exp: d.Exp}
}

func roomyRatio(r api.Ratio) api.Ratio { return api.Ratio{Num: roomy(r.Num), Den: roomy(r.Den)} }

// calls are all of them, each telling the Dyads that it answers.
func calls() map[string]func(a, b api.Ratio) []api.Dyad {
	all := map[string]func(a, b api.Ratio) []api.Dyad{
		"looks": func(a, b api.Ratio) []api.Dyad {
			Cmp(a, b)
			for mode := range 6 {
				Quot(a, mode)
				Quot32(a, mode)
				Root(a, mode)
				Root32(a, mode)
			}
			return nil
		},
	}
	for _, w := range works() {
		all[w.name] = func(a, b api.Ratio) []api.Dyad {
			r, _ := w.call(a, b)
			return []api.Dyad{r.Num, r.Den}
		}
	}
	return all
}

// copies are the words of each, and of its spare room.
func copies(l []api.Dyad) []api.Nat {
	var out []api.Nat
	for _, d := range l {
		out = append(out, slices.Clone(d.Mag[:cap(d.Mag)]))
	}
	return out
}

func alike(a, b []api.Nat) bool {
	return slices.EqualFunc(a, b, func(x, y api.Nat) bool { return slices.Equal(x, y) })
}

// apart fails if what is handed in has changed, or if an answer's words, or their spare room, are another's too.
func apart(t *testing.T, name string, call func(a, b api.Ratio) []api.Dyad, x, y api.Ratio) {
	t.Helper()
	a, b := roomyRatio(x), roomyRatio(y)
	handed := []api.Dyad{a.Num, a.Den, b.Num, b.Den}
	before := copies(handed)
	answers := append(call(a, b), call(a, b)...)
	if !alike(copies(handed), before) {
		t.Errorf("%s changed %s or %s", name, told(x), told(y))
	}
	for i, d := range answers {
		rest := slices.Concat(answers[:i], answers[i+1:], handed)
		kept := copies(rest)
		for j := range d.Mag[:cap(d.Mag)] {
			d.Mag[:cap(d.Mag)][j] = 0xDEADBEEF
		}
		if !alike(copies(rest), kept) {
			t.Errorf("%s of %s and %s: answer %d shares memory", name, told(x), told(y), i)
		}
	}
}

// P11.4: small ones of every sign, noughts, ones, what is not in its form.
func TestMemory(t *testing.T) {
	few := []api.Ratio{by(0, 1), by(1, 1), by(-1, 1), {Num: dy(true, -40, full, 7), Den: dy(false, 3, 2, 0, 1<<31)}, {Num: dy(false, 1, 3, 0, 0), Den: dy(false, 0, 8, 0)}, by(1, 0), by(1, -3)}
	for name, call := range calls() {
		for _, x := range someRatios() {
			apart(t, name, call, x, x)
			for _, y := range few {
				apart(t, name, call, x, y)
				apart(t, name, call, y, x)
			}
		}
	}
}

// P11.4: long ones, and such as are refused.
func TestMemoryOfLongOnes(t *testing.T) {
	for name, call := range calls() {
		for _, x := range append(great(), past()...) {
			apart(t, name, call, over(x), by(-2, 1))
			apart(t, name, call, by(-2, 1), api.Ratio{Num: in(1), Den: x})
			apart(t, name, call, api.Ratio{Num: in(-3), Den: x}, by(1, 1))
		}
	}
}

// R2: one Dyad's words at all four places.
func TestOneDyadAtAllPlaces(t *testing.T) {
	for _, x := range some() {
		if x.Neg || len(x.Mag) == 0 {
			continue
		}
		d := roomy(x)
		one, four := api.Ratio{Num: d, Den: d}, api.Ratio{Num: roomy(x), Den: roomy(x)}
		before := copies([]api.Dyad{d})
		for name, call := range calls() {
			got := call(one, one)
			if want := call(four, roomyRatio(four)); !slices.EqualFunc(got, want, sameDyad) {
				t.Errorf("%s: %v of one Dyad four times, %v of four alike", name, got, want)
			}
		}
		if !alike(copies([]api.Dyad{d}), before) {
			t.Errorf("%s has changed", brief(x))
		}
	}
}

package wide

import (
	"slices"
	"testing"

	"steelyard/api"
)

// roomy is n with spare room behind it that holds words of its own.
func roomy(n api.Nat) api.Nat {
	room := append(slices.Clone(n), 0xAAAAAAAA, 0xBBBBBBBB, 0xCCCCCCCC)
	return room[:len(n)]
}

// calls are all that take Nats, each telling all the Nats that it answers.
func calls() map[string]func(a, b api.Nat) []api.Nat {
	two := func(call func(a, b api.Nat) (api.Nat, api.Errno)) func(a, b api.Nat) []api.Nat {
		return func(a, b api.Nat) []api.Nat {
			n, _ := call(a, b)
			return []api.Nat{n}
		}
	}
	shift := func(by int) func(a, b api.Nat) []api.Nat {
		return two(func(a, _ api.Nat) (api.Nat, api.Errno) { return Shift(a, by) })
	}
	return map[string]func(a, b api.Nat) []api.Nat{
		"Norm": func(a, _ api.Nat) []api.Nat { return []api.Nat{Norm(a)} },
		"Add":  two(Add),
		"Sub":  two(Sub),
		"Mul":  two(Mul),
		"Div": func(a, b api.Nat) []api.Nat {
			q, r, _ := Div(a, b)
			return []api.Nat{q, r}
		},
		"Shift by 0": shift(0), "Shift up": shift(37), "Shift up by words": shift(64), "Shift down": shift(-5), "Shift down by a word": shift(-32),
		"Root": func(a, _ api.Nat) []api.Nat {
			root, left := Root(a)
			return []api.Nat{root, left}
		},
		"looks": func(a, b api.Nat) []api.Nat {
			Small(a)
			Cmp(a, b)
			Len(a)
			Low(a)
			Bit(a, 3)
			Text(a)
			return nil
		},
		"Of":    func(a, _ api.Nat) []api.Nat { return []api.Nat{Of(uint64(len(a)) << 31), Of(5)} },
		"Parse": func(a, _ api.Nat) []api.Nat { n, _ := Parse(Text(a)); return []api.Nat{n} },
	}
}

// scrawl writes all over n and its spare room.
func scrawl(n api.Nat) {
	for i := range n[:cap(n)] {
		n[:cap(n)][i] = 0xDEADBEEF
	}
}

// copies are the words of each, and of its spare room.
func copies(l []api.Nat) []api.Nat {
	var out []api.Nat
	for _, n := range l {
		out = append(out, slices.Clone(n[:cap(n)]))
	}
	return out
}

// P2.6: nothing that is handed in changes, its spare room neither, and no answer shares memory with it, with another answer, or with the answer of another call.
func TestMemory(t *testing.T) {
	for name, call := range calls() {
		for _, x := range some() {
			for _, y := range []api.Nat{nil, {0, 0}, {1}, {1, 0}, {full, 7}, {3, 0, 1 << 31}, x} {
				apart(t, name, call, x, y)
			}
		}
		apart(t, name, call, ones(32*most+40), api.Nat{1})
	}
}

func apart(t *testing.T, name string, call func(a, b api.Nat) []api.Nat, x, y api.Nat) {
	t.Helper()
	a, b := roomy(x), roomy(y)
	held := copies([]api.Nat{a, b})
	answers := append(call(a, b), call(a, b)...)
	if !slices.EqualFunc(copies([]api.Nat{a, b}), held, slices.Equal) {
		t.Errorf("%s changed %v or %v", name, x, y)
	}
	for i, n := range answers {
		rest := slices.Concat(answers[:i], answers[i+1:], []api.Nat{a, b})
		kept := copies(rest)
		scrawl(n)
		if !slices.EqualFunc(copies(rest), kept, slices.Equal) {
			t.Errorf("%s of %v and %v: answer %d shares memory", name, x, y, i)
		}
	}
}

// P2.6: the same Nat on both sides.
func TestBothSidesAlike(t *testing.T) {
	a := roomy(api.Nat{full, full, 1 << 31})
	for name, call := range calls() {
		two := call(a, slices.Clone(a))
		if together := call(a, a); !slices.EqualFunc(two, together, slices.Equal) {
			t.Errorf("%s: %v of one Nat twice, %v of two alike", name, together, two)
		}
	}
}

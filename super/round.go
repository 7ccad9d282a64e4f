package super

import (
	"steelyard/api"
	"steelyard/bits"
	"steelyard/dyad"
	"steelyard/policy"
)

// Round is the sum, rounded so, by a policy.
func (a *Acc) Round(mode int, p api.Policy) (float64, api.Errno) {
	x, told, e := a.ahead(mode, p)
	if e != api.OK || told {
		return x, e
	}
	return dyad.Round(a.Exact(), mode)
}

// Round32 is Round to 32 bits. It starts from the value too: what is rounded to 64 bits first is rounded twice.
func (a *Acc) Round32(mode int, p api.Policy) (float32, api.Errno) {
	x, told, e := a.ahead(mode, p)
	switch {
	case e != api.OK:
		return 0, e
	case told:
		// A NaN, an infinity or a nought: narrowed, it is the same of 32 bits.
		return bits.Narrow(x, mode)
	}
	return dyad.Round32(a.Exact(), mode)
}

// ahead is what is refused or told ahead of the value.
func (a *Acc) ahead(mode int, p api.Policy) (x float64, told bool, e api.Errno) {
	s := a.seen
	switch {
	case mode < api.Even || mode > api.Away || !policy.May(p):
		return 0, false, api.ErrArg
	case s.NaN > 0 && p.NaN == api.Refuse:
		return 0, false, api.ErrNaN
	case s.Up+s.Down > 0 && p.Inf == api.Refuse:
		return 0, false, api.ErrEndless
	}
	if x, told = policy.Verdict(s, p); told {
		return x, true, api.OK
	}
	if a.value == (words{}) {
		return policy.Nought(s, mode), true, api.OK
	}
	return 0, false, api.OK
}

package shard

import (
	"steelyard/api"
	"steelyard/bits"
	"steelyard/dyad"
	"steelyard/mean"
	"steelyard/moment"
	"steelyard/policy"
)

// Sum, Mean, Var are what the whole list would be told to have.
func (s *Shard) Sum(mode int, p api.Policy) (float64, api.Errno) {
	x, carried, e := s.ahead(mode, p)
	switch {
	case e != api.OK || carried:
		return x, e
	case dyad.Sign(s.sum) == 0:
		return policy.Nought(s.seen, mode), api.OK
	}
	return dyad.Round(s.sum, mode)
}

func (s *Shard) Mean(mode int, p api.Policy) (float64, api.Errno) {
	x, carried, e := s.ahead(mode, p)
	n := finite(s.seen)
	switch {
	case e != api.OK || carried:
		return x, e
	case n == 0:
		return 0, api.ErrNone
	case dyad.Sign(s.sum) == 0:
		return policy.Nought(s.seen, mode), api.OK
	}
	return mean.Of(s.sum, n, mode)
}

func (s *Shard) Var(less, mode int, p api.Policy) (float64, api.Errno) {
	if less != 0 && less != 1 {
		return 0, api.ErrArg
	}
	_, carried, e := s.ahead(mode, p)
	n := finite(s.seen)
	switch {
	case e != api.OK:
		return 0, e
	case carried:
		// An infinity has no spread: whatever is carried, it is the NaN.
		return bits.NaN(), api.OK
	case n <= less:
		return 0, api.ErrNone
	}
	return moment.Of(n, s.sum, s.squares, less, mode)
}

// Least and Most are the ends of those that are no NaN.
func (s *Shard) Least() (float64, api.Errno) { return s.end(s.least) }

func (s *Shard) Most() (float64, api.Errno) { return s.end(s.most) }

// end is x, if there is a number of which it can be an end.
func (s *Shard) end(x float64) (float64, api.Errno) {
	switch {
	case s.seen.All == 0:
		return 0, api.ErrNone
	case !s.ranged():
		return bits.NaN(), api.OK
	}
	return x, api.OK
}

// ahead is what is refused, or carried into the answer, ahead of what the finite ones come to.
func (s *Shard) ahead(mode int, p api.Policy) (x float64, carried bool, e api.Errno) {
	switch {
	case mode < api.Even || mode > api.Away || !policy.May(p):
		return 0, false, api.ErrArg
	case s.seen.NaN > 0 && p.NaN == api.Refuse:
		return 0, false, api.ErrNaN
	case s.seen.Up+s.seen.Down > 0 && p.Inf == api.Refuse:
		return 0, false, api.ErrEndless
	}
	x, carried = policy.Verdict(s.seen, p)
	return x, carried, api.OK
}

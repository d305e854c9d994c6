package window

import (
	"slices"

	"skimmer/api"
)

// isNoRound reports whether a round is not one that may be given.
func isNoRound(r api.Round) bool {
	return r.Every < 1 || r.Every > api.MaxRound || r.At < 0 || r.At >= r.Every
}

// checkedRounds returns the error of rounds, and of whether the other arguments fit. All functions with rounds begin with it, so that rounds that are not valid come first.
func checkedRounds(l []api.Round, fits bool) api.Errno {
	if len(l) < 1 || len(l) > api.MaxRounds || slices.ContainsFunc(l, isNoRound) {
		return api.ErrRound
	}
	if !fits {
		return api.ErrArg
	}
	return api.OK
}

// Meet returns the first hour at which rounds meet, and after how many hours they meet again.
func Meet(l []api.Round) (at, every int, err api.Errno) {
	if err := checkedRounds(l, true); err != api.OK {
		return 0, 0, err
	}
	all := api.Round{At: 0, Every: 1}
	for _, r := range l {
		met, ok := meeting(all, r)
		if !ok {
			return 0, 0, api.ErrNone
		}
		all = met
	}
	return all.At, all.Every, api.OK
}

// meeting returns the round of the hours that are in both rounds, if there are any. It goes through the hours of the first one, which may be greater than MaxRound: they stay below the common multiple, so that nothing outgrows 64 bits, as a product might.
func meeting(r, s api.Round) (api.Round, bool) {
	every := multiple(r.Every, s.Every)
	for at := r.At; at < every; at += r.Every {
		if isIn(s, at) {
			return api.Round{At: at, Every: every}, true
		}
	}
	return api.Round{}, false
}

// isIn reports whether an hour is in a round.
func isIn(r api.Round, hour int) bool {
	return hour%r.Every == r.At
}

// neverMeet reports whether two rounds never meet.
func neverMeet(r, s api.Round) bool {
	return (r.At-s.At)%divisor(r.Every, s.Every) != 0
}

// Never returns the first pair of rounds that never meet.
func Never(l []api.Round) (i, k int, err api.Errno) {
	if err := checkedRounds(l, true); err != api.OK {
		return 0, 0, err
	}
	for i := range len(l) {
		for k := i + 1; k < len(l); k++ {
			if neverMeet(l[i], l[k]) {
				return i, k, api.OK
			}
		}
	}
	return 0, 0, api.ErrNone
}

// IsNever reports whether two rounds of the list never meet.
func IsNever(l []api.Round, i, k int) (bool, api.Errno) {
	if err := checkedRounds(l, 0 <= i && i < k && k < len(l)); err != api.OK {
		return false, err
	}
	return neverMeet(l[i], l[k]), api.OK
}

// Hits reports whether an hour is in all rounds.
func Hits(l []api.Round, hour int) (bool, api.Errno) {
	if err := checkedRounds(l, hour >= 0); err != api.OK {
		return false, err
	}
	return !slices.ContainsFunc(l, func(r api.Round) bool { return !isIn(r, hour) }), api.OK
}

// Package tide is layer 1: speeds that are sums of waves, what drifts, when it all repeats, slack water, and texts. See shared/doc/01-tide.md.
package tide

import (
	"slices"

	"skimmer/api"
)

// Valid reports whether a tide is valid.
func Valid(t [][]int) bool {
	return isLength(len(t), api.MaxWaves) && !slices.ContainsFunc(t, isBadWave)
}

func isBadWave(wave []int) bool {
	return !isLength(len(wave), api.MaxSteps) || slices.ContainsFunc(wave, isBadSpeed)
}

func isBadSpeed(speed int) bool {
	return speed < -api.MaxSpeed || speed > api.MaxSpeed
}

func isLength(n, most int) bool {
	return 1 <= n && n <= most
}

func isHour(hour int) bool {
	return -api.MaxHour <= hour && hour <= api.MaxHour
}

// isSpan reports whether a drift may be asked for over n hours.
func isSpan(n int) bool {
	return 0 <= n && n <= api.MaxHour
}

// told answers what tell says of a tide. All that is told of a single tide goes through it, so that a tide that is not valid always comes before an argument that does not fit.
func told[R any](t [][]int, tell func(waves) R, fits ...bool) (R, api.Errno) {
	var none R
	if !Valid(t) {
		return none, api.ErrTide
	}
	if slices.Contains(fits, false) {
		return none, api.ErrArg
	}
	return tell(t), api.OK
}

// Speed returns the speed at an hour.
func Speed(t [][]int, hour int) (int, api.Errno) {
	return told(t, func(w waves) int { return w.speed(hour) }, isHour(hour))
}

// Drift returns the sum of the speeds at the hour from and the n - 1 that follow.
func Drift(t [][]int, from, n int) (int, api.Errno) {
	return told(t, func(w waves) int { return w.drift(from, n) }, isHour(from), isSpan(n))
}

// Round returns the least common multiple of the lengths of the waves.
func Round(t [][]int) (int, api.Errno) {
	return told(t, waves.round)
}

// Net returns the drift over a round from the hour 0.
func Net(t [][]int) (int, api.Errno) {
	return told(t, waves.net)
}

// Beat returns the least number of hours after which all speeds repeat.
func Beat(t [][]int) (int, api.Errno) {
	return told(t, waves.beat)
}

// Once returns the speeds at the hours of the first beat.
func Once(t [][]int) ([]int, api.Errno) {
	return told(t, waves.once)
}

// Slack returns the first hour from an hour on with the speed 0.
func Slack(t [][]int, from int) (int, api.Errno) {
	wait, err := told(t, func(w waves) int { return w.wait(from) }, isHour(from))
	if err != api.OK {
		return 0, err
	}
	if wait == never {
		return 0, api.ErrNone
	}
	return from + wait, api.OK
}

// Highest returns the first hour from 0 on with the greatest speed, and this speed.
func Highest(t [][]int) (hour, speed int, err api.Errno) {
	best, err := told(t, waves.highest)
	return best.hour, best.value, err
}

// Farthest returns the first hour from 0 on from which the drift over n hours is greatest, and this drift.
func Farthest(t [][]int, n int) (hour, drift int, err api.Errno) {
	best, err := told(t, func(w waves) peak { return w.farthest(n) }, isSpan(n))
	return best.hour, best.value, err
}

// Shifted returns the tide whose speed at an hour is that of t by hours later.
func Shifted(t [][]int, by int) ([][]int, api.Errno) {
	return told(t, func(w waves) [][]int { return w.shifted(by) }, isHour(by))
}

// Back returns the tide whose speed at an hour is the opposite of that of t at the opposite hour.
func Back(t [][]int) ([][]int, api.Errno) {
	return told(t, waves.back)
}

// Sum returns the tide with the waves of t and then those of u.
func Sum(t, u [][]int) ([][]int, api.Errno) {
	if !Valid(t) || !Valid(u) {
		return nil, api.ErrTide
	}
	if len(t)+len(u) > api.MaxWaves {
		return nil, api.ErrLimit
	}
	return append(waves(t).copied(), waves(u).copied()...), api.OK
}

// Same reports whether two tides have the same speed at all hours.
func Same(t, u [][]int) (bool, api.Errno) {
	if !Valid(t) || !Valid(u) {
		return false, api.ErrTide
	}
	// Each shows the shortest row of speeds that it repeats, so equal rows are equal tides.
	return slices.Equal(waves(t).once(), waves(u).once()), api.OK
}

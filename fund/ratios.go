package fund

import (
	"cmp"

	"skimmer/api"
)

// The ratios here are awards by a rule and what follows from a few of them: their products fit into 64 bits.

// ratio returns a fraction with d above 0 in lowest terms.
func ratio(n, d int) api.Ratio {
	by := divisor(max(n, -n), d)
	return api.Ratio{N: n / by, D: d / by}
}

// divisor returns the greatest common divisor of two numbers.
func divisor(a, b int) int {
	for b != 0 {
		a, b = b, a%b
	}
	return a
}

func plus(a, b api.Ratio) api.Ratio {
	return ratio(a.N*b.D+b.N*a.D, a.D*b.D)
}

func minus(a, b api.Ratio) api.Ratio {
	return plus(a, api.Ratio{N: -b.N, D: b.D})
}

func compared(a, b api.Ratio) int {
	return cmp.Compare(a.N*b.D, b.N*a.D)
}

func lesser(a, b api.Ratio) api.Ratio {
	if compared(a, b) < 0 {
		return a
	}
	return b
}

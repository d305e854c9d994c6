package print

import "skimmer/api"

// common returns of the longest common rows the one that comes first. It is enough to keep that of the beginnings up to each place, as rows of one length are followed by the same peaks.
func (p pair) common() string {
	rows := map[place]string{}
	for s := range p.steps() {
		row := rows[s.from]
		if s.edit == api.EditKeep {
			row += p.s[s.from.i:s.to.i]
		}
		rows[s.to] = better(rows[s.to], row)
	}
	return rows[p.end()]
}

// better returns the longer one of two rows, or the one that comes first if none is longer.
func better(row, other string) string {
	if len(row) > len(other) || len(row) == len(other) && row < other {
		return row
	}
	return other
}

// isRow reports whether one gets a row from a print by leaving out peaks.
func isRow(s, row string) bool {
	found := 0
	for _, peak := range []byte(s) {
		if found < len(row) && row[found] == peak {
			found++
		}
	}
	return found == len(row)
}

// rows returns how many different rows one gets from a print by leaving out peaks. A peak put behind all rows so far gives as many rows that end with it; those that ended with it so far are among them.
func rows(s string) int {
	all := 1
	ending := [lastPeak - firstPeak + 1]int{}
	for _, peak := range []byte(s) {
		again := ending[peak-firstPeak]
		ending[peak-firstPeak] = all
		all += all - again
	}
	return all
}

package slick

import (
	"slices"
	"testing"

	"skimmer/api"
)

// A cell gives only what is above 0, and nothing more to one who has stopped listening.
func TestGives(t *testing.T) {
	w := waters(api.Bay{W: 2, H: 1, Land: []bool{false, true}, Share: [][5]int{{8, 4, 4, 0, 0}, {}}})
	all := []int{0, 8, 2, 4, 1, 4}
	for wanted := 1; wanted <= 4; wanted++ {
		var got []int
		for to, sixteenths := range w.gives(0) {
			got = append(got, to, sixteenths)
			if len(got) == 2*wanted {
				break
			}
		}
		if !slices.Equal(got, all[:min(2*wanted, len(all))]) {
			t.Errorf("%d wanted, given: %v", wanted, got)
		}
	}
}

package tide

import (
	"strconv"
	"strings"

	"skimmer/api"
)

const (
	betweenWaves  = ";"
	betweenSpeeds = ","
)

// Format returns the text of a tide.
func Format(t [][]int) (string, api.Errno) {
	return told(t, waves.text)
}

func (w waves) text() string {
	texts := make([]string, len(w))
	for i, wave := range w {
		texts[i] = waveText(wave)
	}
	return strings.Join(texts, betweenWaves)
}

func waveText(wave []int) string {
	texts := make([]string, len(wave))
	for i, speed := range wave {
		texts[i] = strconv.Itoa(speed)
	}
	return strings.Join(texts, betweenSpeeds)
}

// Parse returns the tide of a text. One part more than a tide may have is split off, not more: it is enough to see that there are too many.
func Parse(text string) ([][]int, api.Errno) {
	var t [][]int
	for _, part := range strings.SplitN(text, betweenWaves, api.MaxWaves+1) {
		wave, ok := parseWave(part)
		if !ok {
			return nil, api.ErrForm
		}
		t = append(t, wave)
	}
	if !Valid(t) {
		return nil, api.ErrForm
	}
	return t, api.OK
}

func parseWave(text string) ([]int, bool) {
	var wave []int
	for _, part := range strings.SplitN(text, betweenSpeeds, api.MaxSteps+1) {
		speed, ok := parseSpeed(part)
		if !ok {
			return nil, false
		}
		wave = append(wave, speed)
	}
	return wave, true
}

// parseSpeed compares with the text of the number, as Atoi also reads signs and zeros that this text does not have.
func parseSpeed(text string) (int, bool) {
	speed, err := strconv.Atoi(text)
	if err != nil || strconv.Itoa(speed) != text {
		return 0, false
	}
	return speed, true
}

package short_test

import (
	"math"
	"strconv"
	"strings"
	"testing"

	"caliper/api"
)

// wantAsMachine asks for the digits that the machine's language has.
func wantAsMachine(t *testing.T, form int, p uint64, x float64, width int) {
	t.Helper()
	text := strings.TrimPrefix(strconv.FormatFloat(x, 'e', -1, width), "-")
	first, power, _ := strings.Cut(text, "e")
	whole, part, _ := strings.Cut(first, ".")
	k, _ := strconv.Atoi(power)
	wantDigits(t, "Short", form, p, x < 0, whole+part, k-len(part))
}

func TestShortAsMachine(t *testing.T) {
	t.Parallel()
	eachNumber(api.Binary32, func(n number) {
		wantAsMachine(t, api.Binary32, n.p, float64(math.Float32frombits(uint32(n.p))), 32)
	})
	eachNumber(api.Binary64, func(n number) {
		wantAsMachine(t, api.Binary64, n.p, math.Float64frombits(n.p), 64)
	})
}

// Whole numbers and powers of ten, and the numbers beside them: what is written with few digits.
func TestShortOfFewDigits(t *testing.T) {
	t.Parallel()
	for k := -323; k <= 308; k++ {
		for d := 1; d < 100; d += 7 {
			x, _ := strconv.ParseFloat(strconv.Itoa(d)+"e"+strconv.Itoa(k), 64)
			if math.IsInf(x, 0) {
				continue
			}
			p := math.Float64bits(x)
			for _, near := range []uint64{p - 1, p, p + 1} {
				if y := math.Float64frombits(near); y > 0 && !math.IsInf(y, 0) {
					wantAsMachine(t, api.Binary64, near, y, 64)
				}
			}
		}
	}
}

package print_test

import (
	"math"
	"strconv"
	"strings"
	"testing"

	"caliper/api"
)

// asHere is what the machine's language writes of x, shortest and in full, as the document has it: with a power from
// 10^21 on, and below 10^-6.
func asHere(x float64, width int) (string, string) {
	digits, power, _ := strings.Cut(strconv.FormatFloat(x, 'e', -1, width), "e")
	full, fullPower, _ := strings.Cut(strconv.FormatFloat(x, 'e', 800, 64), "e")
	first, _ := strconv.Atoi(power)
	fullFirst, _ := strconv.Atoi(fullPower)
	return written(x, width, -1, digits, first), written(x, 64, 1100, full, fullFirst)
}

// written is x with so many places, or digits with the power of the first of them.
func written(x float64, width, places int, digits string, first int) string {
	if first < -6 || first > 20 {
		return trimmed(digits) + "e" + strconv.Itoa(first)
	}
	return trimmed(strconv.FormatFloat(x, 'f', places, width))
}

// trimmed is s without noughts at the end of what is behind its point.
func trimmed(s string) string {
	if !strings.Contains(s, ".") {
		return s
	}
	return strings.TrimSuffix(strings.TrimRight(s, "0"), ".")
}

// wantAsMachine asks for what the machine's language has of its own number.
func wantAsMachine(t *testing.T, form int, p uint64, x float64, width int) {
	t.Helper()
	if x == 0 || math.IsNaN(x) || math.IsInf(x, 0) {
		return
	}
	short, full := asHere(x, width)
	wantText(t, "Print", form, p, short)
	wantText(t, "PrintFull", form, p, full)
}

func TestAsMachine(t *testing.T) {
	t.Parallel()
	for _, r := range rows {
		for _, p := range r.patterns() {
			switch r.form {
			case api.Binary32:
				wantAsMachine(t, r.form, p, float64(math.Float32frombits(uint32(p))), 32)
			case api.Binary64:
				wantAsMachine(t, r.form, p, math.Float64frombits(p), 64)
			}
		}
	}
}

// Few digits, and the numbers beside them, with all powers about the turns of writing.
func TestOfFewDigits(t *testing.T) {
	t.Parallel()
	for k := -12; k <= 26; k++ {
		for d := 1; d < 1000; d += 11 {
			x, _ := strconv.ParseFloat(strconv.Itoa(d)+"e"+strconv.Itoa(k), 64)
			p, p32 := math.Float64bits(x), math.Float32bits(float32(x))
			for near := range uint64(3) {
				wantAsMachine(t, api.Binary64, p+near-1, math.Float64frombits(p+near-1), 64)
				wantAsMachine(t, api.Binary32, uint64(p32)+near-1, float64(math.Float32frombits(p32+uint32(near)-1)), 32)
			}
		}
	}
}

package print_test

import (
	"math"
	"testing"

	"caliper/api"
)

// said has patterns, and what both calls say of them.
var said = map[int]map[uint64]string{
	api.Posit8:   {0: "0", 0x80: "NaR"},
	api.Posit16:  {0: "0", 0x8000: "NaR"},
	api.Posit32:  {0: "0", 0x80000000: "NaR"},
	api.Posit64:  {0: "0", 1 << 63: "NaR"},
	api.E4M3:     {0: "0", 0x80: "-0", 0x7F: "nan", 0xFF: "nan"},
	api.E5M2:     {0: "0", 0x80: "-0", 0x7C: "inf", 0xFC: "-inf", 0x7D: "nan", 0x7E: "nan", 0x7F: "nan", 0xFD: "nan", 0xFE: "nan", 0xFF: "nan"},
	api.E3M2:     {0: "0", 0x20: "-0"},
	api.E2M3:     {0: "0", 0x20: "-0"},
	api.E2M1:     {0: "0", 8: "-0"},
	api.Int8:     {0: "0"},
	api.E8M0:     {0xFF: "nan"},
	api.Binary16: {0: "0", 0x8000: "-0", 0x7C00: "inf", 0xFC00: "-inf", 0x7C01: "nan", 0x7E00: "nan", 0xFC01: "nan", 0xFFFF: "nan"},
	api.Binary32: {0: "0", 1 << 31: "-0", 0x7F800000: "inf", 0xFF800000: "-inf", 0x7F800001: "nan", 0x7FC00000: "nan", 0xFF800001: "nan", math.MaxUint32: "nan"},
	api.Binary64: {0: "0", 1 << 63: "-0", 0x7FF0000000000000: "inf", 0xFFF0000000000000: "-inf", 0x7FF0000000000001: "nan", 0x7FF8000000000000: "nan", 0xFFF8000000000001: "nan", math.MaxUint64: "nan"},
}

func TestWordsTable(t *testing.T) {
	for form, texts := range said {
		for p, want := range texts {
			wantText(t, "Print", form, p, want)
			wantText(t, "PrintFull", form, p, want)
		}
	}
}

// Noughts, infinities, and what is no number have their words; all others have digits.
func TestWords(t *testing.T) {
	eachForm(t, func(t *testing.T, r row) {
		for _, p := range r.patterns() {
			for call := range calls {
				if want := r.word(p); want != "" {
					wantText(t, call, r.form, p, want)
				} else if s, _ := finiteText(t, call, r, p); !isShape(s) {
					t.Errorf("%s of %d, %X: %q", call, r.form, p, s)
				}
			}
		}
	})
}

// A bit that the form has not is told, whatever the others are.
func TestThatDoNotFit(t *testing.T) {
	for _, r := range rows {
		for i := r.width; i < 64; i++ {
			wide := uint64(1) << i
			for _, p := range []uint64{wide, wide | 1, wide | r.top, wide | r.inf, wide | r.nan, wide | r.all(), math.MaxUint64} {
				wantNone(t, r.form, p, api.ErrArg)
			}
		}
	}
}

// That there is no such form is told first.
func TestOfNoForm(t *testing.T) {
	for _, form := range noForms {
		for _, p := range []uint64{0, 1, 8, 0x41, 0x7F, 0x80, 0xFF, 0x100, 0x8000, 1 << 63, math.MaxUint64} {
			wantNone(t, form, p, api.ErrForm)
		}
	}
}

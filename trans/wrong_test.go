package trans_test

import (
	"math"
	"slices"
	"testing"

	"caliper/api"
)

// somePatterns fit in some forms alone.
var somePatterns = []uint64{0, 1, 8, 0x41, 0x7C, 0x7F, 0x80, 0xFF, 0x100, 0x7C00, 0x8000, 0x10000, 0x7F800000, 1 << 32, 1 << 63, math.MaxUint64}

func allForms() (list []int) {
	for _, r := range rows {
		list = append(list, r.form)
	}
	return list
}

func anyForms() []int { return slices.Concat(allForms(), noForms) }

func anyModes() []int { return slices.Concat(modes, noModes) }

// each is a number, a nought, what is no number, or an infinity: a pattern of each class that the form has.
func (r row) each() []uint64 {
	return []uint64{0, 1, r.top, r.highest(), r.inf, r.nan, r.all()}
}

// That there is no form to turn from is told first, whatever else is wrong.
func TestFromNoForm(t *testing.T) {
	for _, from := range noForms {
		for _, to := range anyForms() {
			for _, p := range somePatterns {
				for _, mode := range anyModes() {
					wantNoTurn(t, from, to, mode, p, api.ErrForm)
				}
				wantNoJust(t, from, to, p, api.ErrForm)
			}
		}
	}
}

// A bit that the form has not is told next, be there a form to turn to, and a mode, or not.
func TestThatDoNotFit(t *testing.T) {
	for _, r := range rows {
		for i := r.width; i < 64; i++ {
			wide := uint64(1) << i
			for _, p := range []uint64{wide, wide | 1, wide | r.top, wide | r.inf, wide | r.nan, wide | r.all(), math.MaxUint64} {
				for _, to := range anyForms() {
					wantNoTurn(t, r.form, to, api.Special, p, api.ErrArg)
					wantNoTurn(t, r.form, to, api.Saturate, p, api.ErrArg)
					wantNoTurn(t, r.form, to, 0, p, api.ErrArg)
					wantNoJust(t, r.form, to, p, api.ErrArg)
				}
			}
		}
	}
}

// That there is no form to turn to is told ahead of the mode, whatever the pattern means.
func TestToNoForm(t *testing.T) {
	for _, r := range rows {
		for _, p := range r.each() {
			for _, to := range noForms {
				for _, mode := range anyModes() {
					wantNoTurn(t, r.form, to, mode, p, api.ErrForm)
				}
				wantNoJust(t, r.form, to, p, api.ErrForm)
			}
		}
	}
}

// The mode is asked for whatever the pattern means, though it matters to few.
func TestOfNoMode(t *testing.T) {
	for _, r := range rows {
		for _, p := range r.each() {
			for _, to := range allForms() {
				for _, mode := range noModes {
					wantNoTurn(t, r.form, to, mode, p, api.ErrArg)
				}
			}
		}
	}
}

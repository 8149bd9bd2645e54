package quire_test

import (
	"math/big"
	"testing"

	"caliper/api"
)

// What is held is rounded once: a single step to this or that side of a half is seen.
func TestPositTable(t *testing.T) {
	const half = 1 << 62
	for _, x := range []struct {
		form int
		m    int64
		by   int // the number is m times 2 to the power of by, and so many steps more
		more int64
		want uint64
	}{
		{api.Posit8, 0, 0, 0, 0}, {api.Posit8, 0, 0, 1, 1}, {api.Posit8, 0, 0, -1, 0xFF}, {api.Posit8, 1, 78, 0, 0x7F}, {api.Posit8, -1, 78, 0, 0x81},
		{api.Posit8, 1, 0, 0, 0x40}, {api.Posit8, 1, 0, 1, 0x40}, {api.Posit8, -1, 0, 0, 0xC0}, {api.Posit8, 3, 0, 0, 0x4C}, {api.Posit8, 9, 0, 0, 0x59},
		{api.Posit8, 17, -4, -1, 0x40}, {api.Posit8, 17, -4, 0, 0x40}, {api.Posit8, 17, -4, 1, 0x41}, {api.Posit8, 19, -4, -1, 0x41}, {api.Posit8, 19, -4, 0, 0x42}, {api.Posit8, 19, -4, 1, 0x42},
		{api.Posit8, -17, -4, -1, 0xBF}, {api.Posit8, -17, -4, 0, 0xC0}, {api.Posit8, -17, -4, 1, 0xC0}, {api.Posit8, -19, -4, 0, 0xBE}, {api.Posit8, -19, -4, 1, 0xBF},
		{api.Posit8, 1, 24, 0, 0x7F}, {api.Posit8, 1, -24, 0, 1}, {api.Posit8, 1, -24, -1, 1}, {api.Posit8, 1, 22, 0, 0x7E}, {api.Posit8, 1, 22, 1, 0x7F},
		{api.Posit16, 0, 0, 1, 1}, {api.Posit16, 0, 0, -1, 0xFFFF}, {api.Posit16, 1, 142, 0, 0x7FFF}, {api.Posit16, -1, 142, 0, 0x8001}, {api.Posit16, 1<<12 + 1, -12, 0, 0x4000}, {api.Posit16, 1<<12 + 1, -12, 1, 0x4001}, {api.Posit16, -1<<12 - 1, -12, -1, 0xBFFF},
		{api.Posit32, 0, 0, 1, 1}, {api.Posit32, 0, 0, -1, 0xFFFFFFFF}, {api.Posit32, 1, 270, 0, 0x7FFFFFFF}, {api.Posit32, -1, 270, 0, 0x80000001}, {api.Posit32, 1<<28 + 1, -28, 0, 0x40000000}, {api.Posit32, 1<<28 + 1, -28, 1, 0x40000001}, {api.Posit32, -1<<28 - 1, -28, -1, 0xBFFFFFFF},
		{api.Posit64, 0, 0, 1, 1}, {api.Posit64, 0, 0, -1, 1<<64 - 1}, {api.Posit64, 1, 526, 0, 1<<63 - 1}, {api.Posit64, -1, 526, 0, 1<<63 + 1}, {api.Posit64, 1<<60 + 1, -60, 0, half}, {api.Posit64, 1<<60 + 1, -60, 1, half + 1}, {api.Posit64, -1<<60 - 1, -60, -1, 3*half - 1},
	} {
		r := rows[x.form-1]
		steps := new(big.Int).Lsh(big.NewInt(x.m), uint(x.by+r.point))
		b := r.bitsOf(plus(steps, x.more))
		if got := r.with(t, b).Posit(); got != x.want {
			t.Errorf("%d: %d by %d, and %d: %X, want %X", x.form, x.m, x.by, x.more, got, x.want)
		}
	}
}

// Each pattern times 1 is told again, NaR too.
func TestPositOfOne(t *testing.T) {
	eachForm(t, func(t *testing.T, r row) {
		for _, p := range r.patterns() {
			q := r.made(t)
			wantOK(t, q.Add(p, r.one), r.form, p)
			if q.Posit() != p {
				t.Errorf("%d: %X times 1: %X", r.form, p, q.Posit())
			}
			q.Clear()
			wantOK(t, q.Sub(r.one, p), r.form, p)
			if q.Posit() != r.other(p) {
				t.Errorf("%d: less %X: %X", r.form, p, q.Posit())
			}
		}
	})
}

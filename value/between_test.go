package value_test

import (
	"math/big"
	"testing"

	"caliper/api"
	"caliper/value"
)

// call is At or Between.
type call func(form int, key uint64) (uint64, int, api.Errno)

var calls = map[string]call{"At": value.At, "Between": value.Between}

type sized struct {
	form int
	key  uint64
	m    uint64
	e    int
}

func wantSizes(t *testing.T, name string, list []sized) {
	t.Helper()
	for _, x := range list {
		if m, e, err := calls[name](x.form, x.key); m != x.m || e != x.e || err != api.OK {
			t.Errorf("%s of %d, %X: %d, %d, %v, want %d, %d", name, x.form, x.key, m, e, err, x.m, x.e)
		}
	}
}

func wantNoSize(t *testing.T, form int, key uint64, want api.Errno) {
	t.Helper()
	for name, size := range calls {
		if m, e, err := size(form, key); m != 0 || e != 0 || err != want {
			t.Errorf("%s of %d, %X: %d, %d, %v, want %v", name, form, key, m, e, err, want)
		}
	}
}

func TestAtTable(t *testing.T) {
	wantSizes(t, "At", []sized{
		{api.Posit8, 0, 0, 0}, {api.Posit8, 1, 1, -24}, {api.Posit8, 0x40, 1, 0}, {api.Posit8, 0x4C, 3, 0}, {api.Posit8, 0x7F, 1, 24},
		{api.Posit16, 0x7FFF, 1, 56}, {api.Posit32, 1, 1, -120}, {api.Posit64, 0, 0, 0}, {api.Posit64, 1, 1, -248}, {api.Posit64, 1<<63 - 1, 1, 248},
		{api.E4M3, 0, 0, 0}, {api.E4M3, 1, 1, -9}, {api.E4M3, 0x38, 1, 0}, {api.E4M3, 0x7E, 7, 6}, {api.E5M2, 0x7B, 7, 13}, {api.E3M2, 0x1F, 7, 2}, {api.E2M3, 0x1F, 15, -1}, {api.E2M1, 7, 3, 1},
		{api.Int8, 0, 0, 0}, {api.Int8, 1, 1, -6}, {api.Int8, 0x40, 1, 0}, {api.Int8, 0x7F, 127, -6}, {api.Int8, 0x80, 1, 1},
		{api.E8M0, 0, 1, -127}, {api.E8M0, 127, 1, 0}, {api.E8M0, 0xFE, 1, 127},
		{api.Binary16, 0x7BFF, 2047, 5}, {api.Binary32, 1, 1, -149}, {api.Binary64, 0, 0, 0}, {api.Binary64, 1, 1, -1074}, {api.Binary64, 0x7FEFFFFFFFFFFFFF, 1<<53 - 1, 971},
	})
}

func TestBetweenTable(t *testing.T) {
	wantSizes(t, "Between", []sized{
		{api.Posit8, 0, 1, -28}, {api.Posit8, 1, 1, -22}, {api.Posit8, 2, 1, -19}, {api.Posit8, 0x40, 17, -4}, {api.Posit8, 0x7E, 1, 22}, {api.Posit8, 0x7F, 1, 28},
		{api.Posit16, 0, 1, -60}, {api.Posit16, 0x7FFF, 1, 60}, {api.Posit32, 0, 1, -124}, {api.Posit32, 0x7FFFFFFF, 1, 124},
		{api.Posit64, 0, 1, -252}, {api.Posit64, 1, 1, -246}, {api.Posit64, 1 << 62, 1<<60 | 1, -60}, {api.Posit64, 1<<63 - 1, 1, 252},
		{api.E4M3, 0, 1, -10}, {api.E4M3, 0x38, 17, -4}, {api.E4M3, 0x7D, 27, 4}, {api.E4M3, 0x7E, 29, 4},
		{api.E5M2, 0, 1, -17}, {api.E5M2, 0x7B, 15, 12}, {api.E3M2, 0x1F, 15, 1}, {api.E2M3, 0x1F, 31, -2}, {api.E2M1, 0, 1, -2}, {api.E2M1, 3, 7, -2}, {api.E2M1, 7, 7, 0},
		{api.Int8, 0, 1, -7}, {api.Int8, 1, 3, -7}, {api.Int8, 0x7F, 255, -7}, {api.Int8, 0x80, 257, -7},
		{api.E8M0, 0, 3, -128}, {api.E8M0, 127, 3, -1}, {api.E8M0, 0xFE, 3, 126},
		{api.Binary16, 0x7BFF, 4095, 4}, {api.Binary32, 0, 1, -150}, {api.Binary32, 0x7F7FFFFF, 1<<25 - 1, 103},
		{api.Binary64, 0, 1, -1075}, {api.Binary64, 0x7FEFFFFFFFFFFFFF, 1<<54 - 1, 970},
	})
}

// sizeAt is what a call answers of a key, which must be odd, or both 0.
func sizeAt(t *testing.T, size call, form int, key uint64) *big.Rat {
	t.Helper()
	m, e, err := size(form, key)
	if err != api.OK || m&1 == 0 && (m != 0 || e != 0) {
		t.Errorf("%d, %X: %d, %d, %v", form, key, m, e, err)
	}
	return times(m, e)
}

// Both against what the chapters below say of magnitudes; each boundary stands behind its key, and
// ahead of the next one.
func TestSizesOfKeys(t *testing.T) {
	for _, r := range rows {
		sides := r.sides()
		most := r.most(sides[len(sides)-1])
		for _, key := range turns(most, 1<<r.man) {
			at, between := sizeAt(t, value.At, r.form, key), sizeAt(t, value.Between, r.form, key)
			if at.Cmp(r.sizeOf(key)) != 0 || between.Cmp(r.boundaryOf(key)) != 0 || at.Cmp(between) >= 0 {
				t.Errorf("%d, %X: %v, %v", r.form, key, at, between)
			}
			if key < most && between.Cmp(sizeAt(t, value.At, r.form, key+1)) >= 0 {
				t.Errorf("%d, %X: %v is not ahead of the next key", r.form, key, between)
			}
		}
	}
}

// Of all but posits a boundary is in the middle of its neighbours.
func TestBetweenIsTheMiddle(t *testing.T) {
	for _, r := range rows {
		if r.kind == tapered {
			continue
		}
		for _, key := range r.keys(false) {
			if key == r.top {
				break
			}
			twice := sizeAt(t, value.Between, r.form, key)
			twice.Add(twice, twice)
			if sum := new(big.Rat).Add(sizeAt(t, value.At, r.form, key), sizeAt(t, value.At, r.form, key+1)); twice.Cmp(sum) != 0 {
				t.Errorf("%d, %X: half of %v, but of the neighbours half of %v", r.form, key, twice, sum)
			}
		}
	}
}

// Of a Turned form the key that is below nought alone may be asked for, but none above that.
func TestSizesOfNoKey(t *testing.T) {
	for _, r := range rows {
		most := r.top
		if r.kind == turned {
			most = 0x80
		}
		for _, key := range beyond(most) {
			wantNoSize(t, r.form, key, api.ErrRange)
		}
	}
}

// That there is no such form is told first.
func TestSizesOfNoForm(t *testing.T) {
	for _, form := range noForms {
		for _, key := range someKeys {
			wantNoSize(t, form, key, api.ErrForm)
		}
	}
}

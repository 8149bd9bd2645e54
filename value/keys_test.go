package value_test

import (
	"math"
	"testing"

	"caliper/api"
	"caliper/value"
)

func wantPattern(t *testing.T, form int, neg bool, key, want uint64) {
	t.Helper()
	if p, err := value.Pattern(form, neg, key); p != want || err != api.OK {
		t.Errorf("Pattern of %d, %v, %X: %X, %v, want %X", form, neg, key, p, err, want)
	}
}

func wantNoPatternOf(t *testing.T, form int, neg bool, key uint64, want api.Errno) {
	t.Helper()
	if p, err := value.Pattern(form, neg, key); p != 0 || err != want {
		t.Errorf("Pattern of %d, %v, %X: %X, %v, want %v", form, neg, key, p, err, want)
	}
}

func wantKey(t *testing.T, form int, p uint64, neg bool, key uint64) {
	t.Helper()
	if gotNeg, got, err := value.Key(form, p); gotNeg != neg || got != key || err != api.OK {
		t.Errorf("Key of %d, %X: %v, %X, %v, want %v, %X", form, p, gotNeg, got, err, neg, key)
	}
}

func wantMost(t *testing.T, form int, neg bool, want uint64, wantErr api.Errno) {
	t.Helper()
	if key, err := value.Most(form, neg); key != want || err != wantErr {
		t.Errorf("Most of %d, %v: %X, %v, want %X, %v", form, neg, key, err, want, wantErr)
	}
}

func TestKeysTable(t *testing.T) {
	for _, x := range []struct {
		form int
		p    uint64
		neg  bool
		key  uint64
	}{
		{api.Posit8, 0, false, 0}, {api.Posit8, 1, false, 1}, {api.Posit8, 0xFF, true, 1}, {api.Posit8, 0x7F, false, 0x7F}, {api.Posit8, 0x81, true, 0x7F}, {api.Posit8, 0xC0, true, 0x40},
		{api.Posit16, 0x8001, true, 0x7FFF}, {api.Posit32, 0xFFFFFFFF, true, 1}, {api.Posit64, math.MaxUint64, true, 1}, {api.Posit64, 1<<63 | 1, true, 1<<63 - 1}, {api.Posit64, 1<<63 - 1, false, 1<<63 - 1},
		{api.E4M3, 0, false, 0}, {api.E4M3, 0x80, true, 0}, {api.E4M3, 0x7E, false, 0x7E}, {api.E4M3, 0xFE, true, 0x7E},
		{api.E5M2, 0x7B, false, 0x7B}, {api.E5M2, 0xFB, true, 0x7B}, {api.E3M2, 0x3F, true, 0x1F}, {api.E3M2, 0x20, true, 0}, {api.E2M3, 0x21, true, 1}, {api.E2M1, 0xF, true, 7}, {api.E2M1, 8, true, 0},
		{api.Int8, 0, false, 0}, {api.Int8, 0x7F, false, 0x7F}, {api.Int8, 0x80, true, 0x80}, {api.Int8, 0x81, true, 0x7F}, {api.Int8, 0xFF, true, 1},
		{api.E8M0, 0, false, 0}, {api.E8M0, 0x80, false, 0x80}, {api.E8M0, 0xFE, false, 0xFE},
		{api.Binary16, 0xFBFF, true, 0x7BFF}, {api.Binary32, 0xFF7FFFFF, true, 0x7F7FFFFF}, {api.Binary64, 1 << 63, true, 0}, {api.Binary64, 0xFFEFFFFFFFFFFFFF, true, 0x7FEFFFFFFFFFFFFF},
	} {
		wantKey(t, x.form, x.p, x.neg, x.key)
		wantPattern(t, x.form, x.neg, x.key, x.p)
	}
}

func TestKeyOfNone(t *testing.T) {
	for form, patterns := range map[int][]uint64{
		api.Posit8: {0x80}, api.Posit16: {0x8000}, api.Posit32: {0x80000000}, api.Posit64: {1 << 63},
		api.E4M3: {0x7F, 0xFF}, api.E5M2: {0x7C, 0x7D, 0x7E, 0x7F, 0xFC, 0xFD, 0xFE, 0xFF}, api.E8M0: {0xFF},
		api.Binary16: {0x7C00, 0x7C01, 0x7E00, 0x7FFF, 0xFC00, 0xFC01, 0xFE00, 0xFFFF},
		api.Binary32: {0x7F800000, 0x7F800001, 0x7FC00000, 0x7FFFFFFF, 0xFF800000, 0xFF800001, 0xFFC00000, 0xFFFFFFFF},
		api.Binary64: {0x7FF0000000000000, 0x7FF0000000000001, 0x7FF8000000000000, 1<<63 - 1, 0xFFF0000000000000, 0xFFF0000000000001, 0xFFF8000000000000, math.MaxUint64},
	} {
		for _, p := range patterns {
			if neg, key, err := value.Key(form, p); neg || key != 0 || err != api.ErrNone {
				t.Errorf("%d, %X: %v, %X, %v", form, p, neg, key, err)
			}
		}
	}
}

// Each pattern that is a number has a key of its own; the number is that of the key, and the pattern comes back.
func TestKeysOfPatterns(t *testing.T) {
	for _, r := range rows {
		for _, p := range r.patterns() {
			v := decoded(t, r.form, p)
			neg, key, err := value.Key(r.form, p)
			if v.Class != api.Zero && v.Class != api.Finite {
				if neg || key != 0 || err != api.ErrNone {
					t.Errorf("Key of %d, %X: %v, %X, %v", r.form, p, neg, key, err)
				}
				continue
			}
			if neg != v.Neg || key > r.most(neg) || err != api.OK || times(v.M, v.E).Cmp(r.sizeOf(key)) != 0 {
				t.Errorf("Key of %d, %X: %v, %X, %v, but it is %+v", r.form, p, neg, key, err, v)
			}
			wantPattern(t, r.form, neg, key, p)
		}
	}
}

// patternOf is the pattern of a key, as the chapters say it.
func patternOf(r row, neg bool, key uint64) uint64 {
	switch {
	case !neg:
		return key
	case r.kind == signed:
		return key + r.highest()
	case key == 0:
		return 0
	}
	return r.all() - key + 1
}

func TestPatternsOfKeys(t *testing.T) {
	for _, r := range rows {
		for _, neg := range r.sides() {
			for _, key := range r.keys(neg) {
				p := patternOf(r, neg, key)
				wantPattern(t, r.form, neg, key, p)
				// Of nought the sign is in the patterns of Signed forms alone.
				wantKey(t, r.form, p, neg && (key != 0 || r.kind == signed), key)
			}
		}
	}
}

func TestMost(t *testing.T) {
	for _, r := range rows {
		wantMost(t, r.form, false, r.top, api.OK)
		if r.kind != scale {
			wantMost(t, r.form, true, r.most(true), api.OK)
		}
	}
	wantMost(t, api.Int8, false, 0x7F, api.OK)
	wantMost(t, api.Int8, true, 0x80, api.OK)
	wantMost(t, api.E8M0, true, 0, api.ErrNone)
}

// beyond are keys above most.
func beyond(most uint64) []uint64 {
	list := []uint64{most + 1, most + 2, 2*most + 1, math.MaxUint64 - 1, math.MaxUint64}
	for i := range 64 {
		if key := uint64(1) << i; key > most {
			list = append(list, key, key|1, key|most)
		}
	}
	return list
}

func TestPatternOfNoKey(t *testing.T) {
	for _, r := range rows {
		for _, neg := range r.sides() {
			for _, key := range beyond(r.most(neg)) {
				wantNoPatternOf(t, r.form, neg, key, api.ErrRange)
			}
		}
	}
}

// A Scale has no number below nought, whatever the key is, be it of none.
func TestScaleBelow(t *testing.T) {
	for _, key := range someKeys {
		wantNoPatternOf(t, api.E8M0, true, key, api.ErrNone)
	}
}

// That there is no such form is told first.
func TestKeysOfNoForm(t *testing.T) {
	for _, form := range noForms {
		for _, neg := range []bool{false, true} {
			wantMost(t, form, neg, 0, api.ErrForm)
			for _, key := range someKeys {
				wantNoPatternOf(t, form, neg, key, api.ErrForm)
			}
		}
	}
}

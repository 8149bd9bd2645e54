package trans_test

import (
	"cmp"
	"math"
	"math/bits"
	"slices"
	"strconv"
	"testing"

	"caliper/api"
	"caliper/trans"
	"caliper/value"
)

// noForms are numbers of no form.
var noForms = []int{0, 15, 16, 99, -1, -14, 256 + 1, 1<<32 + 1, math.MinInt32, math.MaxInt32, math.MinInt, math.MinInt + 1, math.MaxInt}

// noModes are neither Saturate nor Special.
var noModes = []int{0, 3, 4, -1, -2, 256 + 1, 1<<32 + 1, 1<<32 + 2, math.MinInt, math.MaxInt}

var modes = []int{api.Saturate, api.Special}

type kind int

const (
	tapered kind = iota
	signed
	turned
	scale
)

// row is what the document says of a form that matters here, and what becomes there of what is no
// plain number: all of it is written out.
type row struct {
	form, width   int
	kind          kind
	top, inf, nan uint64
	noughts       [2]uint64 // of 0, and of -0
	large         [4]uint64 // of what is too large: with Saturate, with Special, and both below nought
}

var rows = []row{
	{api.Posit8, 8, tapered, 0x7F, 0, 0x80, [2]uint64{}, [4]uint64{0x7F, 0x7F, 0x81, 0x81}},
	{api.Posit16, 16, tapered, 0x7FFF, 0, 0x8000, [2]uint64{}, [4]uint64{0x7FFF, 0x7FFF, 0x8001, 0x8001}},
	{api.Posit32, 32, tapered, 0x7FFFFFFF, 0, 0x80000000, [2]uint64{}, [4]uint64{0x7FFFFFFF, 0x7FFFFFFF, 0x80000001, 0x80000001}},
	{api.Posit64, 64, tapered, 1<<63 - 1, 0, 1 << 63, [2]uint64{}, [4]uint64{1<<63 - 1, 1<<63 - 1, 1<<63 + 1, 1<<63 + 1}},
	{api.E4M3, 8, signed, 0x7E, 0, 0x7F, [2]uint64{0, 0x80}, [4]uint64{0x7E, 0x7F, 0xFE, 0x7F}},
	{api.E5M2, 8, signed, 0x7B, 0x7C, 0x7E, [2]uint64{0, 0x80}, [4]uint64{0x7B, 0x7C, 0xFB, 0xFC}},
	{api.E3M2, 6, signed, 0x1F, 0, 0, [2]uint64{0, 0x20}, [4]uint64{0x1F, 0x1F, 0x3F, 0x3F}},
	{api.E2M3, 6, signed, 0x1F, 0, 0, [2]uint64{0, 0x20}, [4]uint64{0x1F, 0x1F, 0x3F, 0x3F}},
	{api.E2M1, 4, signed, 7, 0, 0, [2]uint64{0, 8}, [4]uint64{7, 7, 0xF, 0xF}},
	{api.Int8, 8, turned, 0x7F, 0, 0, [2]uint64{}, [4]uint64{0x7F, 0x7F, 0x80, 0x80}},
	{api.E8M0, 8, scale, 0xFE, 0, 0xFF, [2]uint64{0xFF, 0xFF}, [4]uint64{0xFE, 0xFF, 0xFF, 0xFF}},
	{api.Binary16, 16, signed, 0x7BFF, 0x7C00, 0x7E00, [2]uint64{0, 0x8000}, [4]uint64{0x7BFF, 0x7C00, 0xFBFF, 0xFC00}},
	{api.Binary32, 32, signed, 0x7F7FFFFF, 0x7F800000, 0x7FC00000, [2]uint64{0, 1 << 31}, [4]uint64{0x7F7FFFFF, 0x7F800000, 0xFF7FFFFF, 0xFF800000}},
	{api.Binary64, 64, signed, 0x7FEFFFFFFFFFFFFF, 0x7FF0000000000000, 0x7FF8000000000000, [2]uint64{0, 1 << 63}, [4]uint64{0x7FEFFFFFFFFFFFFF, 0x7FF0000000000000, 0xFFEFFFFFFFFFFFFF, 0xFFF0000000000000}},
}

func rowOf(form int) row { return rows[form-1] }

// eachPair goes through the pairs of forms, all forms that are turned from at once.
func eachPair(t *testing.T, do func(t *testing.T, from, to row)) {
	for _, from := range rows {
		t.Run(strconv.Itoa(from.form), func(t *testing.T) {
			t.Parallel()
			for _, to := range rows {
				do(t, from, to)
			}
		})
	}
}

func (r row) all() uint64 { return math.MaxUint64 >> (64 - r.width) }

// highest is the highest bit of a pattern.
func (r row) highest() uint64 { return 1 << (r.width - 1) }

// most is the greatest key of that sign.
func (r row) most(neg bool) uint64 {
	if neg && r.kind == turned {
		return r.top + 1
	}
	return r.top
}

// tooLarge is what becomes of a number that is too large.
func (r row) tooLarge(mode int, neg bool) uint64 { return r.large[mode-api.Saturate+2*index(neg)] }

func index(neg bool) int {
	if neg {
		return 1
	}
	return 0
}

// pattern is that of a key, which is nought in no form but a Scale.
func (r row) pattern(neg bool, key uint64) uint64 {
	switch {
	case !neg:
		return key
	case r.kind == signed:
		return key | r.highest()
	}
	return -key & r.all()
}

// patterns are those of the form: all of up to eight bits; of more those about each turn, and some everywhere.
func (r row) patterns() (list []uint64) {
	if r.width <= 8 {
		for p := range r.all() + 1 {
			list = append(list, p)
		}
		return list
	}
	turns := []uint64{0, r.top, r.inf, r.nan, r.all()}
	for i := range r.width {
		turns = append(turns, 1<<i, 3<<i&r.all(), r.all()>>i, r.top>>i)
	}
	mixed := uint64(r.form)
	for _, p := range turns {
		for near := range uint64(3) {
			mixed = mixed*6364136223846793005 + 1442695040888963407
			list = append(list, p+near, p-near, mixed>>(64-r.width), mixed>>1>>(mixed%64))
		}
	}
	for i, p := range list {
		list[i] = p & r.all()
		list = append(list, list[i]^r.highest())
	}
	slices.Sort(list)
	return slices.Compact(list)
}

// meant is what a pattern means.
func (r row) meant(p uint64) api.Value {
	v, err := value.Decode(r.form, p)
	if err != api.OK {
		panic(err)
	}
	return v
}

func isNumber(v api.Value) bool { return v.Class == api.Zero || v.Class == api.Finite }

// compare holds sizes, which are above nought, against each other: by their highest bits, then by what
// is behind these.
func compare(m uint64, e int, n uint64, f int) int {
	return cmp.Or(cmp.Compare(bits.Len64(m)+e, bits.Len64(n)+f), cmp.Compare(m<<bits.LeadingZeros64(m), n<<bits.LeadingZeros64(n)))
}

// leastKey is the least key from low to below high that holds, or high; if one does, all greater ones do.
func leastKey(low, high uint64, holds func(key uint64) bool) uint64 {
	for low < high {
		if middle := low + (high-low)/2; holds(middle) {
			high = middle
		} else {
			low = middle + 1
		}
	}
	return low
}

// rounded is the pattern of a number of that sign and size: of the least key whose boundary it is not beyond.
func (r row) rounded(mode int, v api.Value) uint64 {
	if r.kind == scale && v.Neg {
		return r.nan
	}
	low := uint64(0)
	if r.kind == tapered {
		low = 1
	}
	key := leastKey(low, r.most(v.Neg)+1, func(key uint64) bool {
		m, e, _ := value.Between(r.form, key)
		side := compare(v.M, v.E, m, e)
		return side < 0 || side == 0 && key%2 == 0
	})
	if key > r.most(v.Neg) {
		return r.tooLarge(mode, v.Neg)
	}
	return r.pattern(v.Neg, key)
}

// wanted is what the chapter's words have of what a pattern means.
func (r row) wanted(mode int, v api.Value) uint64 {
	switch {
	case v.Class == api.Zero:
		return r.noughts[index(v.Neg)]
	case v.Class == api.Finite:
		return r.rounded(mode, v)
	case v.Class == api.NaN || r.kind == tapered:
		return r.nan
	}
	return r.tooLarge(mode, v.Neg)
}

// has is whether a number, with its sign, is one of the form: no rounding is asked for.
func (r row) has(v api.Value) bool {
	switch {
	case v.Class == api.Zero:
		return r.kind == signed || !v.Neg && r.kind != scale
	case v.Class != api.Finite || v.Neg && r.kind == scale:
		return false
	}
	low := uint64(1)
	if r.kind == scale {
		low = 0
	}
	key := leastKey(low, r.most(v.Neg)+1, func(key uint64) bool {
		m, e, _ := value.At(r.form, key)
		return compare(m, e, v.M, v.E) >= 0
	})
	m, e, err := value.At(r.form, key)
	return key <= r.most(v.Neg) && err == api.OK && m == v.M && e == v.E
}

func wantTurn(t *testing.T, from, to, mode int, p, want uint64) {
	t.Helper()
	if got, err := trans.Turn(from, to, mode, p); got != want || err != api.OK {
		t.Errorf("Turn of %d to %d, %d, %X: %X, %v, want %X", from, to, mode, p, got, err, want)
	}
}

// wantBoth asks for it whatever becomes of what is too large.
func wantBoth(t *testing.T, from, to int, p, want uint64) {
	t.Helper()
	for _, mode := range modes {
		wantTurn(t, from, to, mode, p, want)
	}
}

func wantJust(t *testing.T, from, to int, p uint64, want bool) {
	t.Helper()
	if is, err := trans.Just(from, to, p); is != want || err != api.OK {
		t.Errorf("Just of %d to %d, %X: %v, %v, want %v", from, to, p, is, err, want)
	}
}

// wantNoTurn asks for that error, and for no pattern beside it.
func wantNoTurn(t *testing.T, from, to, mode int, p uint64, want api.Errno) {
	t.Helper()
	if got, err := trans.Turn(from, to, mode, p); got != 0 || err != want {
		t.Errorf("Turn of %d to %d, %d, %X: %X, %v, want %v", from, to, mode, p, got, err, want)
	}
}

func wantNoJust(t *testing.T, from, to int, p uint64, want api.Errno) {
	t.Helper()
	if is, err := trans.Just(from, to, p); is || err != want {
		t.Errorf("Just of %d to %d, %X: %v, %v, want %v", from, to, p, is, err, want)
	}
}

package posit_test

import (
	"math"
	"math/bits"
	"testing"

	"caliper/api"
	"caliper/posit"
)

func wantNumber(t *testing.T, width int, key, m uint64, e int) {
	t.Helper()
	if gotM, gotE, err := posit.Value(width, key); gotM != m || gotE != e || err != api.OK {
		t.Errorf("Value of %d, %X: %d, %d, %v, want %d, %d", width, key, gotM, gotE, err, m, e)
	}
	wantKey(t, width, m, e, key)
}

func wantKey(t *testing.T, width int, m uint64, e int, want uint64) {
	t.Helper()
	if key, err := posit.Key(width, m, e); key != want || err != api.OK {
		t.Errorf("Key of %d, %d, %d: %X, %v, want %X", width, m, e, key, err, want)
	}
}

func wantNoNumber(t *testing.T, width int, m uint64, e int, want api.Errno) {
	t.Helper()
	if key, err := posit.Key(width, m, e); key != 0 || err != want {
		t.Errorf("Key of %d, %d, %d: %X, %v, want %v", width, m, e, key, err, want)
	}
}

func TestValueTable(t *testing.T) {
	for _, x := range []struct {
		width  int
		key, m uint64
		e      int
	}{
		{8, 0x40, 1, 0}, {8, 1, 1, -24}, {8, 0x7F, 1, 24}, {8, 0x4C, 3, 0}, {8, 0x7E, 1, 20}, {8, 2, 1, -20}, {8, 3, 1, -18},
		{8, 0x7D, 1, 18}, {8, 0x3F, 15, -4}, {8, 0x41, 9, -3}, {8, 0x5F, 15, 0},
		{3, 1, 1, -4}, {3, 2, 1, 0}, {3, 3, 1, 4}, {4, 3, 1, -2}, {4, 5, 1, 2}, {6, 0b10111, 3, 2},
		{16, 1, 1, -56}, {16, 0x7FFF, 1, 56}, {16, 0x4001, 2049, -11}, {32, 1, 1, -120}, {32, 0x7FFFFFFF, 1, 120},
		{64, 1, 1, -248}, {64, 1<<63 - 1, 1, 248}, {64, 1<<62 | 1, 1<<59 | 1, -59},
		{65, 1, 1, -252}, {65, 1<<64 - 1, 1, 252}, {65, 1<<63 | 1, 1<<60 | 1, -60}, {65, 3<<62 - 1, 1<<61 - 1, -57}, {65, 1<<63 - 1, 1<<61 - 1, -61},
	} {
		wantNumber(t, x.width, x.key, x.m, x.e)
	}
}

// All keys of the small widths, and those about each turn of the others, against what the document
// says of their fields; and greater keys are greater numbers.
func TestValueOfKeys(t *testing.T) {
	for width := leastWidth; width <= mostWidth; width++ {
		below := times(0, 0)
		for _, key := range keysOf(width) {
			m, e, err := posit.Value(width, key)
			if err != api.OK || m&1 == 0 {
				t.Fatalf("%d, %X: %d, %d, %v", width, key, m, e, err)
			}
			number := times(m, e)
			if number.Cmp(reckon(read(width, key))) != 0 {
				t.Errorf("%d, %X: %d, %d", width, key, m, e)
			}
			if number.Cmp(below) <= 0 {
				t.Errorf("%d, %X: %v is not above %v", width, key, number, below)
			}
			wantKey(t, width, m, e, key)
			below = number
		}
	}
}

// number is m times 2 to the power of e, m being odd.
type number struct {
	m uint64
	e int
}

func numberOf(m uint64, e int) number {
	even := bits.TrailingZeros64(m)
	return number{m >> even, e + even}
}

// Of all numbers about those of the small widths a key is just its own, whatever m and e they have.
func TestKeyAllAbout(t *testing.T) {
	for width := leastWidth; width <= 9; width++ {
		keys := map[number]uint64{}
		for _, key := range keysOf(width) {
			f := read(width, key)
			keys[numberOf(1<<f.Bits|f.Frac, 4*f.Regime+f.Exp-f.Bits)] = key
		}
		for m := uint64(1); m <= 70; m++ {
			for e := -40; e <= 40; e++ {
				key, shift := keys[numberOf(m, e)], bits.LeadingZeros64(m)
				if key == 0 {
					wantNoNumber(t, width, m, e, api.ErrExact)
					wantNoNumber(t, width, m<<shift, e-shift, api.ErrExact)
				} else {
					wantKey(t, width, m, e, key)
					wantKey(t, width, m<<shift, e-shift, key)
				}
			}
		}
	}
}

// Beyond the least and the greatest magnitude there is none, and none beside a key's last bit.
func TestKeyEdges(t *testing.T) {
	for width := leastWidth; width <= mostWidth; width++ {
		far := 4 * (width - 2)
		wantNumber(t, width, 1, 1, -far)
		wantNumber(t, width, greatest(width), 1, far)
		wantKey(t, width, 1<<63, -far-63, 1)
		wantKey(t, width, 1<<63, far-63, greatest(width))
		for i := 1; i <= 3; i++ {
			wantNoNumber(t, width, 1, -far-i, api.ErrExact)
			wantNoNumber(t, width, 1, -far+i, api.ErrExact)
			wantNoNumber(t, width, 1, far+i, api.ErrExact)
			wantNoNumber(t, width, 1, far-i, api.ErrExact)
		}
		for _, m := range []uint64{3, 5, 1<<61 + 1, 1<<63 + 1, math.MaxUint64} {
			length := bits.Len64(m) - 1
			wantNoNumber(t, width, m, -far-length, api.ErrExact)
			wantNoNumber(t, width, m, far-length, api.ErrExact)
		}
		// From 1 to 2 the fraction has width less 5 bits: one bit more is in no key.
		if width >= 6 {
			frac := width - 5
			wantKey(t, width, 1<<frac|1, -frac, greatest(width)/2+2)
			wantNoNumber(t, width, 1<<(frac+1)|1, -frac-1, api.ErrExact)
		}
	}
}

// The boundary behind a key is the magnitude 2 key + 1 of the width and one: of the width there is none that is this.
func TestKeyOfBoundaries(t *testing.T) {
	for width := leastWidth; width < mostWidth; width++ {
		for _, key := range keysOf(width) {
			m, e, err := posit.Value(width+1, 2*key+1)
			if err != api.OK {
				t.Errorf("%d, %X: %v", width, key, err)
			}
			wantNoNumber(t, width, m, e, api.ErrExact)
		}
	}
}

// Powers far beyond those of the width, whichever m is multiplied with them.
func TestKeyFarBeyond(t *testing.T) {
	for width := leastWidth; width <= mostWidth; width++ {
		for _, m := range []uint64{1, 2, 3, 1 << 32, 1 << 62, 1 << 63, math.MaxUint64, math.MaxUint64 - 1} {
			for _, e := range []int{317, 318, 1000, 1023, 1024, 4096, 5000, 5001, 1 << 20, math.MaxInt32, 1 << 32, 1<<32 + 1, 1 << 62, 1<<62 + 1,
				math.MaxInt - 64, math.MaxInt - 63, math.MaxInt - 1, math.MaxInt} {
				wantNoNumber(t, width, m, e, api.ErrExact)
				wantNoNumber(t, width, m, -e, api.ErrExact)
			}
			wantNoNumber(t, width, m, math.MinInt, api.ErrExact)
			wantNoNumber(t, width, m, math.MinInt+63, api.ErrExact)
			wantNoNumber(t, width, m, math.MinInt32, api.ErrExact)
		}
	}
}

func TestKeyOfNone(t *testing.T) {
	powers := []int{0, 1, -1, 24, 25, 5001, -5001, math.MaxInt, math.MinInt}
	for _, e := range powers {
		for _, width := range noWidths {
			for _, m := range []uint64{0, 1, 3, 1 << 63, math.MaxUint64} {
				wantNoNumber(t, width, m, e, api.ErrArg)
			}
		}
		for width := leastWidth; width <= mostWidth; width++ {
			wantNoNumber(t, width, 0, e, api.ErrArg)
		}
	}
}

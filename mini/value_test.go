package mini_test

import (
	"math"
	"math/bits"
	"testing"

	"caliper/api"
	"caliper/mini"
)

func wantNumber(t *testing.T, man, bias int, key, m uint64, e int) {
	t.Helper()
	if gotM, gotE, err := mini.Value(man, bias, key); gotM != m || gotE != e || err != api.OK {
		t.Errorf("Value of %d, %d, %X: %d, %d, %v, want %d, %d", man, bias, key, gotM, gotE, err, m, e)
	}
	wantKey(t, man, bias, m, e, key)
}

func wantKey(t *testing.T, man, bias int, m uint64, e int, want uint64) {
	t.Helper()
	if key, err := mini.Key(man, bias, m, e); key != want || err != api.OK {
		t.Errorf("Key of %d, %d, %d, %d: %X, %v, want %X", man, bias, m, e, key, err, want)
	}
}

func wantNoNumber(t *testing.T, man, bias int, m uint64, e int, want api.Errno) {
	t.Helper()
	if key, err := mini.Key(man, bias, m, e); key != 0 || err != want {
		t.Errorf("Key of %d, %d, %d, %d: %X, %v, want %v", man, bias, m, e, key, err, want)
	}
}

func TestValueTable(t *testing.T) {
	for _, x := range []struct {
		man, bias int
		key, m    uint64
		e         int
	}{
		{3, 7, 0x38, 1, 0}, {3, 7, 1, 1, -9}, {3, 7, 0, 0, 0}, {3, 7, 6, 3, -8}, {3, 7, 7, 7, -9}, {3, 7, 8, 1, -6}, {3, 7, 9, 9, -9},
		{3, 7, 0x3C, 3, -1}, {3, 7, 0x7E, 7, 6}, {3, 7, 0x7FFF, 15, 4085}, {3, 7, 0x7FF8, 1, 4088},
		{2, 15, 0x7B, 7, 13}, {2, 15, 1, 1, -16}, {2, 3, 0x1F, 7, 2}, {3, 1, 0x1F, 15, -1}, {3, 1, 1, 1, -3}, {1, 1, 1, 1, -1}, {1, 1, 7, 3, 1},
		{10, 15, 0x7BFF, 2047, 5}, {10, 15, 1, 1, -24}, {23, 127, 1, 1, -149}, {23, 127, 0x3F800000, 1, 0}, {23, 127, 0x7F7FFFFF, 1<<24 - 1, 104},
		{52, 1023, 1, 1, -1074}, {52, 1023, 1<<52 - 1, 1<<52 - 1, -1074}, {52, 1023, 1 << 52, 1, -1022}, {52, 1023, 0x7FEFFFFFFFFFFFFF, 1<<53 - 1, 971},
		{52, 1023, math.MaxUint64, 1<<53 - 1, 3020},
		{0, 0, 0, 0, 0}, {0, 0, 1, 1, 1}, {0, 127, 5, 1, -122}, {0, 2000, 1, 1, -1999}, {0, -2000, 4095, 1, 6095}, {0, 2000, 4095, 1, 2095},
		{60, 2000, 1, 1, -2059}, {60, 2000, 1<<60 - 1, 1<<60 - 1, -2059}, {60, 2000, 1 << 60, 1, -1999}, {60, -2000, math.MaxUint64, 1<<61 - 1, 1955},
		{60, -2000, 15 << 60, 1, 2015}, {60, 0, 1<<60 | 1, 1<<60 | 1, -59}, {60, -2000, 1, 1, 1941},
	} {
		wantNumber(t, x.man, x.bias, x.key, x.m, x.e)
	}
}

// All keys of the small mantissas, and those about each turn of the others, against what the document
// says of them; and greater keys are greater numbers.
func TestValueOfKeys(t *testing.T) {
	for man := range mostMan + 1 {
		for _, bias := range []int{-5, 0, 7, 300} {
			below := times(0, 0)
			for i, key := range keysOf(man) {
				m, e, err := mini.Value(man, bias, key)
				if err != api.OK || m&1 == 0 && (key != 0 || m != 0 || e != 0) {
					t.Fatalf("%d, %d, %X: %d, %d, %v", man, bias, key, m, e, err)
				}
				number := times(m, e)
				if number.Cmp(reckon(man, bias, key)) != 0 {
					t.Errorf("%d, %d, %X: %d, %d", man, bias, key, m, e)
				}
				if i > 0 && number.Cmp(below) <= 0 {
					t.Errorf("%d, %d, %X is not above the key ahead", man, bias, key)
				}
				wantKey(t, man, bias, m, e, key)
				below = number
			}
		}
	}
}

// Another bias moves each number but 0 by a power of two, and nothing else.
func TestBiases(t *testing.T) {
	for man := range mostMan + 1 {
		for _, key := range []uint64{0, 1, 3, 6, 1<<man - 1, 1 << man, 1<<man | 1, 3 << man, greatest(man) - 1, greatest(man)} {
			m, e, err := mini.Value(man, 0, key)
			if err != api.OK {
				t.Errorf("%d, %X: %v", man, key, err)
			}
			for _, bias := range biases {
				if key == 0 {
					wantNumber(t, man, bias, 0, 0, 0)
				} else {
					wantNumber(t, man, bias, key, m, e-bias)
				}
			}
		}
	}
}

// number is m times 2 to the power of e, m being odd.
type number struct {
	m uint64
	e int
}

func numberOf(m uint64, e int) number {
	even := bits.TrailingZeros64(m)
	return number{m >> even, e + even}
}

// Of all numbers about those of the small fields a key is just its own, whatever m and e they have.
func TestKeyAllAbout(t *testing.T) {
	for man := range 5 {
		for _, bias := range []int{-3, 0, 1, 7} {
			keys := map[number]uint64{}
			for field := range uint64(48) {
				for mantissa := range uint64(1) << man {
					switch {
					case field > 0:
						keys[numberOf(mantissa+1<<man, int(field)-bias-man)] = field<<man | mantissa
					case mantissa > 0:
						keys[numberOf(mantissa, 1-bias-man)] = mantissa
					}
				}
			}
			for m := uint64(1); m <= 70; m++ {
				for e := -20; e <= 20; e++ {
					key, shift := keys[numberOf(m, e)], bits.LeadingZeros64(m)
					if key == 0 {
						wantNoNumber(t, man, bias, m, e, api.ErrExact)
						wantNoNumber(t, man, bias, m<<shift, e-shift, api.ErrExact)
					} else {
						wantKey(t, man, bias, m, e, key)
						wantKey(t, man, bias, m<<shift, e-shift, key)
					}
				}
			}
		}
	}
}

// Below the least and above the greatest magnitude there is none, and none beside a key's last bit.
func TestKeyEdges(t *testing.T) {
	for man := range mostMan + 1 {
		for _, bias := range biases {
			// Key 1 is the least one above 0, of a mantissa without bits (then in field 1), too.
			least := 1 - bias - man
			wantKey(t, man, bias, 1, least, 1)
			wantKey(t, man, bias, 1<<63, least-63, 1)
			for i := 1; i <= 64; i++ {
				wantNoNumber(t, man, bias, 1, least-i, api.ErrExact)
				wantNoNumber(t, man, bias, 1<<63|1, least-i, api.ErrExact)
				wantNoNumber(t, man, bias, 3, least-i, api.ErrExact)
			}
			top := int(greatest(man) >> man)
			all := uint64(1)<<(man+1) - 1
			wantKey(t, man, bias, all, top-bias-man, greatest(man))
			wantKey(t, man, bias, 1, top-bias, uint64(top)<<man)
			wantKey(t, man, bias, 1<<63, top-bias-63, uint64(top)<<man)
			wantNoNumber(t, man, bias, 1<<(man+1), top-bias-man, api.ErrExact)
			wantNoNumber(t, man, bias, all<<1|1, top-bias-man-1, api.ErrExact)
			for i := 1; i <= 64; i++ {
				wantNoNumber(t, man, bias, 1, top-bias+i, api.ErrExact)
				wantNoNumber(t, man, bias, all, top-bias-man+i, api.ErrExact)
				wantNoNumber(t, man, bias, 1<<63, top-bias-63+i, api.ErrExact)
				wantNoNumber(t, man, bias, math.MaxUint64, top-bias-63+i, api.ErrExact)
			}
		}
	}
}

// The boundary behind a key is the magnitude 2 key + 1 of one bit more of the mantissa: of man there is none that is this.
func TestKeyOfBoundaries(t *testing.T) {
	for man := range mostMan {
		for _, key := range keysOf(man) {
			if key > math.MaxUint64/2 {
				break
			}
			m, e, err := mini.Value(man+1, 7, 2*key+1)
			if err != api.OK {
				t.Errorf("%d, %X: %v", man, key, err)
			}
			wantNoNumber(t, man, 7, m, e, api.ErrExact)
		}
	}
}

// Powers far beyond those of all magnitudes, whichever m is multiplied with them.
func TestKeyFarBeyond(t *testing.T) {
	for man := range mostMan + 1 {
		for _, bias := range biases {
			for _, m := range []uint64{1, 2, 3, 1 << 32, 1 << 62, 1 << 63, 1<<63 | 1, math.MaxUint64, math.MaxUint64 - 1} {
				for _, e := range []int{6200, 9999, 10000, 10001, 1 << 20, math.MaxInt32, 1 << 32, 1<<32 + 1, 1 << 62, 1<<62 + 1,
					math.MaxInt - 2063, math.MaxInt - 64, math.MaxInt - 63, math.MaxInt - 1, math.MaxInt} {
					wantNoNumber(t, man, bias, m, e, api.ErrExact)
					wantNoNumber(t, man, bias, m, -e, api.ErrExact)
				}
				for _, e := range []int{math.MinInt, math.MinInt + 63, math.MinInt + 2063, math.MinInt32} {
					wantNoNumber(t, man, bias, m, e, api.ErrExact)
				}
			}
		}
	}
}

// 0 is the key of 0, whatever power it is multiplied with.
func TestKeyOfNought(t *testing.T) {
	for man := range mostMan + 1 {
		for _, bias := range biases {
			for _, e := range []int{0, 1, -1, 60, -60, 5000, -5000, 10001, -10001, math.MaxInt, math.MinInt} {
				wantKey(t, man, bias, 0, e, 0)
			}
		}
	}
}

// What may not be is told ahead of a number that no key is, and ahead of 0.
func TestKeyOfNone(t *testing.T) {
	for _, e := range []int{0, 1, -9, -10, 4089, 10001, -10001, math.MaxInt, math.MinInt} {
		for _, m := range []uint64{0, 1, 3, 17, 1 << 63, math.MaxUint64} {
			for _, man := range noMans {
				for _, bias := range []int{-2000, 0, 7, 2000, 2001} {
					wantNoNumber(t, man, bias, m, e, api.ErrArg)
				}
			}
			for _, bias := range noBiases {
				for man := range mostMan + 1 {
					wantNoNumber(t, man, bias, m, e, api.ErrArg)
				}
			}
		}
	}
}

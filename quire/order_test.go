package quire_test

import (
	"math/big"
	"slices"
	"testing"

	"caliper/quire"
)

// pair is a product, added or taken away.
type pair struct {
	a, b uint64
	away bool
}

func (r row) pairs(seed uint64) (list []pair) {
	ps := r.mixedPatterns(seed, 60)
	for i := 0; i < len(ps); i += 2 {
		list = append(list, pair{ps[i], ps[i+1], ps[i]%3 == 0})
	}
	return append(list, pair{r.most(), r.most(), false}, pair{1, 1, false}, pair{r.most(), r.most(), true}, pair{1, 1, false})
}

func (r row) addAll(t *testing.T, q *quire.Quire, list []pair) {
	t.Helper()
	for _, x := range list {
		if x.away {
			wantOK(t, q.Sub(x.a, x.b), r.form, x)
		} else {
			wantOK(t, q.Add(x.a, x.b), r.form, x)
		}
	}
}

// orders are other orders of a list: told from its end, sorted, from another place on, every seventh.
func orders(list []pair) [][]pair {
	back := slices.Clone(list)
	slices.Reverse(back)
	sorted := slices.Clone(list)
	slices.SortFunc(sorted, func(x, y pair) int { return int(int64(x.a>>1) - int64(y.a>>1)) })
	out := [][]pair{back, sorted}
	for from := 1; from < len(list); from += 5 {
		out = append(out, slices.Concat(list[from:], list[:from]))
	}
	var every []pair
	for first := range 7 {
		for i := first; i < len(list); i += 7 {
			every = append(every, list[i])
		}
	}
	return append(out, every)
}

// In whatever order products are added, be the factors turned about or not, the same is held.
func TestOrder(t *testing.T) {
	eachForm(t, func(t *testing.T, r row) {
		for seed := range uint64(12) {
			list := r.pairs(seed)
			b := new(big.Int)
			for _, x := range list {
				b = r.summed(b, x.a, x.b, x.away)
			}
			q := r.made(t)
			r.addAll(t, q, list)
			r.wantAll(t, q, b, seed)
			for i, other := range orders(list) {
				q := r.made(t)
				r.addAll(t, q, other)
				r.wantBits(t, q, b, seed, i)
				for j, x := range other {
					other[j] = pair{x.b, x.a, x.away}
				}
				q.Clear()
				r.addAll(t, q, other)
				r.wantBits(t, q, b, seed, i, "turned about")
			}
		}
	})
}

// The least product is not lost beside the greatest.
func TestLeastBesideGreatest(t *testing.T) {
	eachForm(t, func(t *testing.T, r row) {
		q := r.made(t)
		r.addAll(t, q, []pair{{r.most(), r.most(), false}, {1, 1, false}})
		r.wantAll(t, q, plus(power(r.size-32), 1), "both")
		r.addAll(t, q, []pair{{r.most(), r.most(), true}})
		r.wantAll(t, q, big.NewInt(1), "the least")
		r.addAll(t, q, []pair{{1, 1, true}})
		r.wantAll(t, q, new(big.Int), "none")
	})
}

// The highest bits: so many of the greatest product fit, and one more makes NaR of it, in either order of the signs.
func TestManyGreatest(t *testing.T) {
	eachForm(t, func(t *testing.T, r row) {
		greatest := power(r.size - 32)
		b := new(big.Int).Sub(r.narBits(), new(big.Int).Lsh(greatest, 1))
		q := r.with(t, b)
		r.addAll(t, q, []pair{{r.most(), r.most(), false}})
		r.wantAll(t, q, new(big.Int).Add(b, greatest), "one more")
		r.addAll(t, q, []pair{{1, 1, true}, {r.most(), r.most(), false}})
		r.wantAll(t, q, plus(r.narBits(), -1), "the most")
		r.addAll(t, q, []pair{{1, 1, false}})
		r.wantAll(t, q, r.narBits(), "NaR")
	})
}

package value

import (
	"math/bits"

	"caliper/api"
	"caliper/forms"
	"caliper/mini"
	"caliper/posit"
)

// shape is a form, and the way of its kind.
type shape struct {
	forms.Form
	way
}

// way is what kinds have each of their own. Patterns and keys have been found to be of the form
// when these are handed them.
type way struct {
	read   func(f forms.Form, p uint64) (class int, neg bool, key uint64)
	write  func(f forms.Form, neg bool, key uint64) uint64
	at     func(f forms.Form, key uint64) (uint64, int)
	behind func(f forms.Form, key uint64) (uint64, int)
}

func ways() map[int]way {
	return map[int]way{
		forms.Tapered: {readTurned, writeTurned, atTapered, behindTapered},
		forms.Signed:  {readSigned, writeSigned, atSigned, behindSigned},
		forms.Turned:  {readTurned, writeTurned, atTurned, behindTurned},
		forms.Scale:   {readScale, writeScale, atScale, behindScale},
	}
}

// shapeOf is the form of that number.
func shapeOf(form int) (shape, api.Errno) {
	f, err := forms.Of(form)
	if err != api.OK {
		return shape{}, err
	}
	return shape{f, ways()[f.Kind]}, api.OK
}

// fitting is the form of that number, if p may be a pattern of it.
func fitting(form int, p uint64) (shape, api.Errno) {
	if err := forms.Fits(form, p); err != api.OK {
		return shape{}, err
	}
	return shapeOf(form)
}

// ranging is the form of that number, if a number of it, of either sign, has that key.
func ranging(form int, key uint64) (shape, api.Errno) {
	s, err := shapeOf(form)
	if err == api.OK && key > s.most(true) {
		return shape{}, api.ErrRange
	}
	return s, err
}

// most is Top, but two's complement has one number more below nought.
func (s shape) most(neg bool) uint64 {
	if neg && s.Kind == forms.Turned {
		return s.Top + 1
	}
	return s.Top
}

// readTurned is for posits, too: what is below nought is turned there as well. A form without a NaN
// has 0 for it, which is why nought comes first.
func readTurned(f forms.Form, p uint64) (int, bool, uint64) {
	switch {
	case p == 0:
		return api.Zero, false, 0
	case p == f.NaN:
		return api.NaN, false, 0
	case p&f.Sign() != 0:
		return api.Finite, true, turned(f, p)
	}
	return api.Finite, false, p
}

func writeTurned(f forms.Form, neg bool, key uint64) uint64 {
	if neg {
		return turned(f, key)
	}
	return key
}

// turned is 2 to the power of the width less p, and 0 of 0.
func turned(f forms.Form, p uint64) uint64 { return -p & f.Mask() }

// readSigned asks for Inf above Top alone: a form without one has 0 for it.
func readSigned(f forms.Form, p uint64) (int, bool, uint64) {
	neg, magnitude := p&f.Sign() != 0, p&^f.Sign()
	switch {
	case magnitude == 0:
		return api.Zero, neg, 0
	case magnitude <= f.Top:
		return api.Finite, neg, magnitude
	case magnitude == f.Inf:
		return api.Inf, neg, 0
	}
	return api.NaN, false, 0
}

func writeSigned(f forms.Form, neg bool, key uint64) uint64 {
	if neg {
		return f.Sign() | key
	}
	return key
}

// readScale has no nought: of 0 the power is the least one.
func readScale(f forms.Form, p uint64) (int, bool, uint64) {
	if p == f.NaN {
		return api.NaN, false, 0
	}
	return api.Finite, false, p
}

func writeScale(_ forms.Form, _ bool, key uint64) uint64 { return key }

// atTapered has 0 and 0 of key 0, which posit answers beside its error: it is no magnitude there.
func atTapered(f forms.Form, key uint64) (uint64, int) {
	m, e, _ := posit.Value(f.Width, key)
	return m, e
}

func behindTapered(f forms.Form, key uint64) (uint64, int) {
	f.Width++
	return atTapered(f, 2*key+1)
}

func atSigned(f forms.Form, key uint64) (uint64, int) {
	m, e, _ := mini.Value(f.Man, f.Bias, key)
	return m, e
}

func behindSigned(f forms.Form, key uint64) (uint64, int) {
	f.Man++
	return atSigned(f, 2*key+1)
}

func atTurned(f forms.Form, key uint64) (uint64, int) {
	if key == 0 {
		return 0, 0
	}
	even := bits.TrailingZeros64(key)
	return key >> even, even - f.Man
}

func behindTurned(f forms.Form, key uint64) (uint64, int) {
	f.Man++
	return atTurned(f, 2*key+1)
}

func atScale(f forms.Form, key uint64) (uint64, int) { return 1, int(key) - f.Bias }

// behindScale is key and a half more.
func behindScale(f forms.Form, key uint64) (uint64, int) { return 3, int(key) - f.Bias - 1 }

package forms

import (
	"caliper/api"
)

// Mask has all bits that a pattern of f may have.
func (f Form) Mask() uint64 {
	// A form that a caller has made may have any width, but no shift may be by less than 0.
	return 1<<max(0, f.Width) - 1
}

// Sign is the bit that tells the sign.
func (f Form) Sign() uint64 {
	if f.Kind == Scale {
		return 0
	}
	mask := f.Mask()
	return mask ^ mask>>1
}

// Fits is whether p may be a pattern of that form.
func Fits(form int, p uint64) api.Errno {
	_, err := fitting(form, p)
	return err
}

// Canon is p, but of all that are no numbers the one that stands for them.
func Canon(form int, p uint64) (uint64, api.Errno) {
	f, err := fitting(form, p)
	if err != api.OK {
		return 0, err
	}
	// Of the kinds beside Signed one pattern at most is no number, and it stands for itself.
	if f.Kind == Signed && f.isBeyond(p&^f.Sign()) {
		return f.NaN, api.OK
	}
	return p, api.OK
}

// fitting is the form of that number, if p may be a pattern of it.
func fitting(form int, p uint64) (Form, api.Errno) {
	f, err := Of(form)
	if err == api.OK && p&^f.Mask() != 0 {
		return Form{}, api.ErrArg
	}
	return f, err
}

// isBeyond is whether that magnitude is none of a number, nor infinite.
func (f Form) isBeyond(magnitude uint64) bool {
	return magnitude > f.Top && magnitude != f.Inf
}

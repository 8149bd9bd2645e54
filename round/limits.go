package round

import (
	"caliper/api"
	"caliper/forms"
	"caliper/value"
)

// Limits are the sizes between which Round, with Special, has the pattern, and whether it has it of
// these two themselves. A second one of 0 says that there is none.
func Limits(form int, p uint64) (api.Exact, api.Exact, bool, api.Errno) {
	neg, key, err := finite(form, p)
	if err != api.OK {
		return api.Exact{}, api.Exact{}, false, err
	}
	var ahead, after api.Exact
	if key > leastKey(form) {
		ahead = behind(form, key-1)
	}
	if !isEndless(form, neg, key) {
		after = behind(form, key)
	}
	return ahead, after, isEven(key), api.OK
}

// finite is the sign and the key of a pattern that is Finite. A Scale has a key 0 that is, so that
// the key alone does not tell.
func finite(form int, p uint64) (bool, uint64, api.Errno) {
	v, err := value.Decode(form, p)
	if err != api.OK {
		return false, 0, err
	}
	if v.Class != api.Finite {
		return false, 0, api.ErrNone
	}
	return value.Key(form, p)
}

// isEndless is whether all that is large enough is rounded to that key.
func isEndless(form int, neg bool, key uint64) bool {
	f, _ := forms.Of(form)
	most, _ := value.Most(form, neg)
	return key == most && staysNumber(f, api.Special)
}

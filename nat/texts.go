package nat

import (
	"strconv"
	"strings"

	"caliper/api"
)

// A word holds so many decimal digits, whatever they are: texts are gone through by pieces of them.
const (
	pieceDigits = 19
	piece       = 10_000_000_000_000_000_000
)

// Text is the decimal digits.
func Text(a api.Nat) string {
	pieces := piecesOf(a)
	last := len(pieces) - 1
	if last < 0 {
		return "0"
	}
	text := strconv.AppendUint(nil, pieces[last], 10)
	for i := last - 1; i >= 0; i-- {
		digits := strconv.FormatUint(pieces[i], 10)
		text = append(text, strings.Repeat("0", pieceDigits-len(digits))...)
		text = append(text, digits...)
	}
	return string(text)
}

// piecesOf are the digits to base piece, the lowest first.
func piecesOf(a api.Nat) []uint64 {
	var pieces []uint64
	rest := Norm(a...)
	for len(rest) > 0 {
		pieces = append(pieces, divideByWord(rest, piece))
		rest = trim(rest)
	}
	return pieces
}

// Parse is the number whose Text s is, and whether there is one.
func Parse(s string) (api.Nat, bool) {
	if s == "" || len(s) > api.MaxText || s[0] == '0' && s != "0" {
		return nil, false
	}
	var n api.Nat
	for len(s) > 0 {
		// The first piece is the one that may be shorter, so that all others are the same power.
		size := (len(s)-1)%pieceDigits + 1
		// To base 10 ParseUint takes digits alone: no sign, no underscore.
		digits, err := strconv.ParseUint(s[:size], 10, 64)
		if err != nil {
			return nil, false
		}
		n = Add(Mul(n, Of(piece)), Of(digits))
		s = s[size:]
	}
	return n, true
}

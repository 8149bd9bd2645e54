package scan

import "strings"

// parts are the pieces of a text, as it has them; they are read on the spot, and not kept.
type parts struct {
	kind  int
	neg   bool
	whole []byte // the digits ahead of the point
	frac  []byte // and behind it
	down  bool   // is the power below 0?
	power []byte // the digits of its size
}

// split is the parts of a text; of what is none, the place of the byte that makes it none, and false.
func split(b []byte) (parts, int, bool) {
	p := parts{kind: Number}
	at, rest := 0, ""
	took := taker(b, &at)
	digits := func() []byte {
		from := at
		for took("0123456789") {
		}
		return b[from:at]
	}
	p.neg = took("-")
	switch {
	case took("i"):
		p.kind, rest = Inf, "nf"
	case took("n"):
		p.kind, rest = NaN, "an"
	case took("N"):
		p.kind, rest = NaR, "aR"
	default:
		goto number
	}
word:
	if rest == "" {
		goto end
	}
	if !took(rest[:1]) {
		goto none
	}
	rest = rest[1:]
	goto word
number:
	p.whole = digits()
	if took(".") {
		p.frac = digits()
	}
	if len(p.whole)+len(p.frac) == 0 {
		goto none
	}
	if !took("eE") {
		goto end
	}
	if p.down = took("-"); !p.down {
		took("+")
	}
	if p.power = digits(); len(p.power) == 0 {
		goto none
	}
end:
	if at == len(b) {
		return p, 0, true
	}
none:
	return parts{}, at, false
}

// taker is a function that goes by the next byte, if it is one of these, and tells whether it did.
func taker(b []byte, at *int) func(these string) bool {
	return func(these string) bool {
		if *at == len(b) || strings.IndexByte(these, b[*at]) < 0 {
			return false
		}
		*at++
		return true
	}
}

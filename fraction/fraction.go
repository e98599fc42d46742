// Package fraction is layer 1: big integers and exact fractions. See doc/01-fraction.md.
package fraction

import (
	"math/bits"
	"slices"
	"strconv"

	"tablefinder/api"
)

// validBigs reports whether all of several numbers are valid.
func validBigs(l ...api.Big) bool {
	for _, a := range l {
		n := len(a.Words)
		if n > api.MaxWords || n == 0 && a.Neg || n > 0 && a.Words[n-1] == 0 {
			return false
		}
	}
	return true
}

// validAll reports whether all of several fractions are valid.
func validAll(l ...api.Fraction) bool {
	for _, f := range l {
		if !validBigs(f.Num, f.Den) || f.Den.Neg || len(f.Den.Words) == 0 {
			return false
		}
		if isOne(f.Den.Words) {
			continue
		}
		if len(f.Num.Words) == 0 || !isOne(gcdWords(f.Num.Words, f.Den.Words)) {
			return false
		}
	}
	return true
}

// big returns a number of a sign and words that nothing else uses.
func big(neg bool, words []uint32) api.Big {
	if len(words) == 0 {
		return api.Big{}
	}
	return api.Big{Neg: neg, Words: words}
}

// limited returns a number, or ErrLimit.
func limited(a api.Big) (api.Big, api.Errno) {
	if len(a.Words) > api.MaxWords {
		return api.Big{}, api.ErrLimit
	}
	return a, api.OK
}

func negated(a api.Big) api.Big { return big(!a.Neg, a.Words) }

func sum(a, b api.Big) api.Big {
	if a.Neg == b.Neg {
		return big(a.Neg, addWords(a.Words, b.Words))
	}
	if cmpWords(a.Words, b.Words) < 0 {
		a, b = b, a
	}
	return big(a.Neg, subWords(a.Words, b.Words))
}

func product(a, b api.Big) api.Big {
	return big(a.Neg != b.Neg, mulWords(a.Words, b.Words))
}

func compare(a, b api.Big) int {
	if a.Neg != b.Neg {
		if a.Neg {
			return -1
		}
		return 1
	}
	if a.Neg {
		a, b = b, a
	}
	return cmpWords(a.Words, b.Words)
}

// ValidBig reports whether a big integer is valid.
func ValidBig(a api.Big) bool { return validBigs(a) }

// FromInt returns an integer as a big one.
func FromInt(n int) api.Big {
	size := uint64(n)
	if n < 0 {
		size = -size
	}
	return big(n < 0, words64(0, size))
}

// Int returns a big integer as an int, if it is one.
func Int(a api.Big) (int, bool) {
	if !validBigs(a) || len(a.Words) > 2 {
		return 0, false
	}
	size := short(a.Words)
	switch {
	case a.Neg && size <= 1<<63:
		return int(-size), true
	case !a.Neg && size < 1<<63:
		return int(size), true
	}
	return 0, false
}

// CmpBig compares big integers.
func CmpBig(a, b api.Big) int {
	if !validBigs(a, b) {
		return 0
	}
	return compare(a, b)
}

// AddBig returns a + b.
func AddBig(a, b api.Big) (api.Big, api.Errno) {
	if !validBigs(a, b) {
		return api.Big{}, api.ErrInvalid
	}
	return limited(sum(a, b))
}

// SubBig returns a - b.
func SubBig(a, b api.Big) (api.Big, api.Errno) {
	if !validBigs(a, b) {
		return api.Big{}, api.ErrInvalid
	}
	return limited(sum(a, negated(b)))
}

// MulBig returns the product.
func MulBig(a, b api.Big) (api.Big, api.Errno) {
	if !validBigs(a, b) {
		return api.Big{}, api.ErrInvalid
	}
	return limited(product(a, b))
}

// DivBig returns the quotient, rounded towards 0, and the remainder.
func DivBig(a, b api.Big) (q, r api.Big, e api.Errno) {
	if !validBigs(a, b) {
		return q, r, api.ErrInvalid
	}
	if len(b.Words) == 0 {
		return q, r, api.ErrDivision
	}
	quotient, rest := divWords(a.Words, b.Words)
	return big(a.Neg != b.Neg, quotient), big(a.Neg, rest), api.OK
}

// TextBig returns the decimal digits.
func TextBig(a api.Big) string {
	if !validBigs(a) {
		return ""
	}
	if len(a.Words) == 0 {
		return "0"
	}
	text := ""
	for w := a.Words; len(w) > 0; {
		rest, part := divWord(w, 1000000000)
		digits := strconv.FormatUint(uint64(part), 10)
		if len(rest) > 0 {
			digits = "000000000"[len(digits):] + digits
		}
		text, w = digits+text, rest
	}
	if a.Neg {
		return "-" + text
	}
	return text
}

// lowest returns num / den in lowest terms, for a den greater than 0; both share no memory with other values.
func lowest(num api.Big, den []uint32) (api.Fraction, api.Errno) {
	if len(num.Words) == 0 {
		return api.Fraction{Den: FromInt(1)}, api.OK
	}
	if !isOne(den) {
		if g := gcdWords(num.Words, den); !isOne(g) {
			num.Words, _ = divWords(num.Words, g)
			den, _ = divWords(den, g)
		}
	}
	if len(num.Words) > api.MaxWords || len(den) > api.MaxWords {
		return api.Fraction{}, api.ErrLimit
	}
	return api.Fraction{Num: num, Den: big(false, den)}, api.OK
}

// Valid reports whether a fraction is valid.
func Valid(f api.Fraction) bool { return validAll(f) }

// Make returns num / den.
func Make(num, den api.Big) (api.Fraction, api.Errno) {
	if !validBigs(num, den) {
		return api.Fraction{}, api.ErrInvalid
	}
	if len(den.Words) == 0 {
		return api.Fraction{}, api.ErrDivision
	}
	return lowest(big(num.Neg != den.Neg, slices.Clone(num.Words)), slices.Clone(den.Words))
}

// Of returns num / den.
func Of(num, den int) (api.Fraction, api.Errno) { return Make(FromInt(num), FromInt(den)) }

// Cmp compares fractions.
func Cmp(a, b api.Fraction) int {
	if !validAll(a, b) {
		return 0
	}
	if cmpWords(a.Den.Words, b.Den.Words) == 0 {
		return compare(a.Num, b.Num)
	}
	if a.Num.Neg != b.Num.Neg {
		return compare(a.Num, b.Num)
	}
	return compare(product(a.Num, b.Den), product(b.Num, a.Den))
}

// Add returns a + b.
func Add(a, b api.Fraction) (api.Fraction, api.Errno) {
	if !validAll(a, b) {
		return api.Fraction{}, api.ErrInvalid
	}
	if cmpWords(a.Den.Words, b.Den.Words) == 0 {
		return lowest(sum(a.Num, b.Num), slices.Clone(a.Den.Words))
	}
	num := sum(product(a.Num, b.Den), product(b.Num, a.Den))
	return lowest(num, mulWords(a.Den.Words, b.Den.Words))
}

// Sub returns a - b.
func Sub(a, b api.Fraction) (api.Fraction, api.Errno) {
	if !validAll(b) {
		return api.Fraction{}, api.ErrInvalid
	}
	return Add(a, api.Fraction{Num: negated(b.Num), Den: b.Den})
}

// Mul returns the product.
func Mul(a, b api.Fraction) (api.Fraction, api.Errno) {
	if !validAll(a, b) {
		return api.Fraction{}, api.ErrInvalid
	}
	return lowest(product(a.Num, b.Num), mulWords(a.Den.Words, b.Den.Words))
}

// Div returns a / b.
func Div(a, b api.Fraction) (api.Fraction, api.Errno) {
	if !validAll(a, b) {
		return api.Fraction{}, api.ErrInvalid
	}
	if len(b.Num.Words) == 0 {
		return api.Fraction{}, api.ErrDivision
	}
	num := product(a.Num, b.Den)
	return lowest(big(num.Neg != b.Num.Neg, num.Words), mulWords(a.Den.Words, b.Num.Words))
}

// Text returns a fraction as a text.
func Text(f api.Fraction) string {
	if !validAll(f) {
		return ""
	}
	if isOne(f.Den.Words) {
		return TextBig(f.Num)
	}
	return TextBig(f.Num) + "/" + TextBig(f.Den)
}

// digits returns the number that a text of 1 to most digits stands for.
func digits(text string, most int) (uint64, bool) {
	if len(text) < 1 || len(text) > most {
		return 0, false
	}
	n := uint64(0)
	for i := range len(text) {
		if text[i] < '0' || text[i] > '9' {
			return 0, false
		}
		n = 10*n + uint64(text[i]-'0')
	}
	return n, true
}

// cut returns what a decimal has in front of its point and behind it.
func cut(text string) (front, behind string, point bool) {
	for i := range len(text) {
		if text[i] == '.' {
			return text[:i], text[i+1:], true
		}
	}
	return text, "", false
}

// Decimal returns the value of a decimal.
func Decimal(text string) (api.Fraction, bool) {
	if len(text) > api.MaxDigits+api.MaxPlaces+2 {
		return api.Fraction{}, false
	}
	neg := text != "" && text[0] == '-'
	if neg || text != "" && text[0] == '+' {
		text = text[1:]
	}
	front, behind, point := cut(text)
	whole, ok := digits(front, api.MaxDigits)
	part, good := uint64(0), true
	if point {
		part, good = digits(behind, api.MaxPlaces)
	}
	if !ok || !good {
		return api.Fraction{}, false
	}
	power := uint64(1)
	for range len(behind) {
		power *= 10
	}
	hi, lo := bits.Mul64(whole, power)
	lo, carry := bits.Add64(lo, part, 0)
	f, _ := lowest(big(neg, words64(hi+carry, lo)), words64(0, power))
	return f, true
}

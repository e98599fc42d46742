package fraction

import (
	"math/bits"
	"slices"
)

// The functions of this file work on natural numbers of any length: words, the least one first,
// without leading zeros. Only the exported functions know the limit on words.

func trim(w []uint32) []uint32 {
	for len(w) > 0 && w[len(w)-1] == 0 {
		w = w[:len(w)-1]
	}
	return w
}

func words64(hi, lo uint64) []uint32 {
	return trim([]uint32{uint32(lo), uint32(lo >> 32), uint32(hi), uint32(hi >> 32)})
}

// short returns a number of at most two words.
func short(w []uint32) uint64 {
	n := uint64(0)
	for i := range w {
		n |= uint64(w[i]) << (32 * i)
	}
	return n
}

func isOne(w []uint32) bool { return len(w) == 1 && w[0] == 1 }

func cmpWords(a, b []uint32) int {
	if len(a) != len(b) {
		return sign(len(a) - len(b))
	}
	for i := len(a) - 1; i >= 0; i-- {
		if a[i] < b[i] {
			return -1
		}
		if a[i] > b[i] {
			return 1
		}
	}
	return 0
}

func sign(n int) int {
	switch {
	case n < 0:
		return -1
	case n > 0:
		return 1
	}
	return 0
}

func addWords(a, b []uint32) []uint32 {
	if len(a) < len(b) {
		a, b = b, a
	}
	sum := make([]uint32, len(a)+1)
	carry := uint64(0)
	for i := range a {
		carry += uint64(a[i])
		if i < len(b) {
			carry += uint64(b[i])
		}
		sum[i] = uint32(carry)
		carry >>= 32
	}
	sum[len(a)] = uint32(carry)
	return trim(sum)
}

// take subtracts b from a, which is not less, in a's own memory.
func take(a, b []uint32) []uint32 {
	borrow := uint64(0)
	for i := range a {
		d := uint64(a[i]) - borrow
		if i < len(b) {
			d -= uint64(b[i])
		} else if borrow == 0 {
			break
		}
		a[i] = uint32(d)
		borrow = d >> 63
	}
	return trim(a)
}

func subWords(a, b []uint32) []uint32 { return take(slices.Clone(a), b) }

func mulWords(a, b []uint32) []uint32 {
	product := make([]uint32, len(a)+len(b))
	for i := range a {
		carry := uint64(0)
		for j := range b {
			carry += uint64(a[i])*uint64(b[j]) + uint64(product[i+j])
			product[i+j] = uint32(carry)
			carry >>= 32
		}
		product[i+len(b)] = uint32(carry)
	}
	return trim(product)
}

// divWord divides by a single word that is not 0.
func divWord(a []uint32, b uint32) (q []uint32, r uint32) {
	q = make([]uint32, len(a))
	rest := uint64(0)
	for i := len(a) - 1; i >= 0; i-- {
		rest = rest<<32 | uint64(a[i])
		q[i] = uint32(rest / uint64(b))
		rest %= uint64(b)
	}
	return trim(q), uint32(rest)
}

// divWords divides by a number that is not 0, word by word of the quotient (Knuth's algorithm D).
func divWords(a, b []uint32) (q, r []uint32) {
	if cmpWords(a, b) < 0 {
		return nil, slices.Clone(a)
	}
	if len(b) == 1 {
		q, rest := divWord(a, b[0])
		return q, trim([]uint32{rest})
	}
	shift := bits.LeadingZeros32(b[len(b)-1])
	u, v := shiftLeft(a, shift), trim(shiftLeft(b, shift))
	q = make([]uint32, len(a)-len(b)+1)
	for j := len(q) - 1; j >= 0; j-- {
		part := u[j : j+len(v)+1]
		digit := guess(part, v)
		if subtractProduct(part, v, digit) {
			digit--
			addBack(part, v)
		}
		q[j] = uint32(digit)
	}
	return trim(q), shiftRight(trim(u), shift)
}

// guess returns the next word of a quotient, or one more.
func guess(u, v []uint32) uint64 {
	n := len(v)
	top := uint64(u[n])<<32 | uint64(u[n-1])
	digit, rest := top/uint64(v[n-1]), top%uint64(v[n-1])
	for digit >= 1<<32 || digit*uint64(v[n-2]) > rest<<32|uint64(u[n-2]) {
		digit--
		rest += uint64(v[n-1])
		if rest >= 1<<32 {
			break
		}
	}
	return digit
}

// subtractProduct subtracts v times digit from u, and reports whether that was too much.
func subtractProduct(u, v []uint32, digit uint64) bool {
	carry, borrow := uint64(0), uint64(0)
	for i := range v {
		carry += digit * uint64(v[i])
		d := uint64(u[i]) - borrow - carry&(1<<32-1)
		u[i] = uint32(d)
		borrow = d >> 63
		carry >>= 32
	}
	d := uint64(u[len(v)]) - borrow - carry
	u[len(v)] = uint32(d)
	return d>>63 != 0
}

func addBack(u, v []uint32) {
	carry := uint64(0)
	for i := range v {
		carry += uint64(u[i]) + uint64(v[i])
		u[i] = uint32(carry)
		carry >>= 32
	}
	u[len(v)] += uint32(carry)
}

// shiftLeft shifts by less than a word, into new memory with one word more.
func shiftLeft(a []uint32, n int) []uint32 {
	l := make([]uint32, len(a)+1)
	for i := range a {
		l[i] |= a[i] << n
		l[i+1] = uint32(uint64(a[i]) << n >> 32)
	}
	return l
}

// shiftRight shifts by any number of bits, in a's own memory.
func shiftRight(a []uint32, n int) []uint32 {
	whole, n := n/32, n%32
	if whole >= len(a) {
		return nil
	}
	l := a[:len(a)-whole]
	for i := range l {
		w := uint64(a[i+whole])
		if i+whole+1 < len(a) {
			w |= uint64(a[i+whole+1]) << 32
		}
		l[i] = uint32(w >> n)
	}
	return trim(l)
}

func trailingZeros(a []uint32) int {
	for i := range a {
		if a[i] != 0 {
			return 32*i + bits.TrailingZeros32(a[i])
		}
	}
	return 0
}

// gcdWords returns the greatest common divisor of two numbers that are not 0. After one division,
// which makes their lengths alike, it only shifts and subtracts, in place.
func gcdWords(a, b []uint32) []uint32 {
	if cmpWords(a, b) < 0 {
		a, b = b, a
	}
	y := slices.Clone(b)
	_, x := divWords(a, b)
	if len(x) == 0 {
		return y
	}
	n := min(trailingZeros(x), trailingZeros(y))
	x, y = shiftRight(x, trailingZeros(x)), shiftRight(y, trailingZeros(y))
	for len(x) > 2 || len(y) > 2 {
		c := cmpWords(x, y)
		if c == 0 {
			return scale(x, n)
		}
		if c < 0 {
			x, y = y, x
		}
		x = take(x, y)
		x = shiftRight(x, trailingZeros(x))
	}
	return scale(words64(0, gcd64(short(x), short(y))), n)
}

// scale returns a times 2^n.
func scale(a []uint32, n int) []uint32 {
	return trim(append(make([]uint32, n/32), shiftLeft(a, n%32)...))
}

// gcd64 expects odd numbers.
func gcd64(a, b uint64) uint64 {
	for a != b {
		if a < b {
			a, b = b, a
		}
		a -= b
		a >>= bits.TrailingZeros64(a)
	}
	return a
}

package fraction

import (
	"fmt"
	"math"
	exact "math/big"
	"math/rand"
	"reflect"
	"slices"
	"strings"
	"testing"

	"tablefinder/api"
)

func equal(t *testing.T, what string, got, want any) {
	t.Helper()
	if g, w := fmt.Sprintf("%+v", got), fmt.Sprintf("%+v", want); g != w {
		t.Errorf("%s:\n got %s\nwant %s", what, g, w)
	}
}

func list(l ...any) []any { return l }

func of(n, d int) api.Fraction { f, _ := Of(n, d); return f }

// value returns a valid big integer as one of math/big.
func value(a api.Big) *exact.Int {
	n := new(exact.Int)
	for _, w := range slices.Backward(a.Words) {
		n.Or(n.Lsh(n, 32), exact.NewInt(int64(w)))
	}
	if a.Neg {
		n.Neg(n)
	}
	return n
}

func from(n *exact.Int) api.Big {
	a := api.Big{Neg: n.Sign() < 0}
	for m := new(exact.Int).Abs(n); m.Sign() > 0; m.Rsh(m, 32) {
		a.Words = append(a.Words, uint32(new(exact.Int).And(m, exact.NewInt(math.MaxUint32)).Uint64()))
	}
	return a
}

// random returns a number of up to most words, with many extreme words.
func random(r *rand.Rand, most int) api.Big {
	words := make([]uint32, r.Intn(most+1))
	for i := range words {
		words[i] = []uint32{0, 1, math.MaxUint32, 1 << 31, r.Uint32(), r.Uint32()}[r.Intn(6)]
	}
	words = trim(words)
	return api.Big{Neg: len(words) > 0 && r.Intn(2) == 0, Words: words}
}

func power(n int) api.Big { return from(new(exact.Int).Lsh(exact.NewInt(1), uint(n))) }

var bad = []api.Big{{Neg: true}, {Words: []uint32{1, 0}}, {Words: slices.Repeat([]uint32{1}, 257)}}

func TestP1_1(t *testing.T) {
	for i, a := range bad {
		n, ok := Int(a)
		equal(t, fmt.Sprint("bad ", i), list(ValidBig(a), n, ok), list(false, 0, false))
	}
	equal(t, "most words", ValidBig(power(32*256-1)), true)
	for _, n := range []int{0, 1, -1, math.MaxInt, math.MinInt, 1 << 32, 1<<32 - 1, -1 << 31} {
		m, ok := Int(FromInt(n))
		equal(t, fmt.Sprint(n), list(value(FromInt(n)).String(), m, ok, ValidBig(FromInt(n))), list(fmt.Sprint(n), n, true, true))
	}
	for _, a := range []api.Big{power(63), power(64), {Neg: true, Words: []uint32{1, 1 << 31}}} {
		n, ok := Int(a)
		equal(t, "no int", list(n, ok), list(0, false))
	}
	one := FromInt(1)
	for i, f := range []api.Fraction{{}, {Num: one}, {Num: one, Den: FromInt(-2)}, {Num: FromInt(2), Den: FromInt(4)}, {Den: FromInt(2)}, {Num: bad[0], Den: one}, {Num: one, Den: bad[1]}} {
		equal(t, fmt.Sprint("fraction ", i), Valid(f), false)
	}
	equal(t, "fractions", list(Valid(of(0, 5)), Valid(of(-3, 6))), list(true, true))
}

func TestP1_2(t *testing.T) {
	r := rand.New(rand.NewSource(1))
	for range 3000 {
		a, b := random(r, 9), random(r, 5)
		x, y := value(a), value(b)
		s, _ := AddBig(a, b)
		d, _ := SubBig(a, b)
		p, _ := MulBig(a, b)
		equal(t, "sums", list(value(s), value(d), value(p)), list(new(exact.Int).Add(x, y), new(exact.Int).Sub(x, y), new(exact.Int).Mul(x, y)))
		equal(t, "valid", list(ValidBig(s), ValidBig(d), ValidBig(p), CmpBig(a, b), TextBig(a)), list(true, true, true, x.Cmp(y), x.String()))
		q, rest, e := DivBig(a, b)
		if y.Sign() == 0 {
			equal(t, "by 0", list(q, rest, e), list(api.Big{}, api.Big{}, api.ErrDivision))
			continue
		}
		w, v := new(exact.Int).QuoRem(x, y, new(exact.Int))
		equal(t, "division", list(value(q), value(rest), ValidBig(q), ValidBig(rest), e), list(w, v, true, true, api.OK))
	}
	top := power(32*256 - 1)
	for _, x := range bad {
		_, e := AddBig(x, top)
		_, f := SubBig(top, x)
		_, g := MulBig(x, x)
		_, _, h := DivBig(x, api.Big{})
		_, _, i := DivBig(top, x)
		equal(t, "invalid", list(e, f, g, h, i, CmpBig(x, top), TextBig(x)), list(1, 1, 1, 1, 1, 0, ""))
	}
	a, e := AddBig(top, top)
	b, f := MulBig(top, FromInt(-2))
	c, g := SubBig(top, negated(top))
	equal(t, "limit", list(a, b, c, e, f, g), list(api.Big{}, api.Big{}, api.Big{}, api.ErrLimit, api.ErrLimit, api.ErrLimit))
}

func rat(f api.Fraction) *exact.Rat { return new(exact.Rat).SetFrac(value(f.Num), value(f.Den)) }

func TestP1_3and4(t *testing.T) {
	r := rand.New(rand.NewSource(2))
	for range 1500 {
		a, ea := Make(random(r, 6), random(r, 6))
		b, eb := Make(random(r, 2), random(r, 6))
		if ea != api.OK || eb != api.OK {
			equal(t, "den 0", list(max(ea, eb)), list(api.ErrDivision))
			continue
		}
		x, y := rat(a), rat(b)
		s, _ := Add(a, b)
		d, _ := Sub(a, b)
		p, _ := Mul(a, b)
		equal(t, "fractions", list(rat(s), rat(d), rat(p), Cmp(a, b), Cmp(a, a)), list(new(exact.Rat).Add(x, y), new(exact.Rat).Sub(x, y), new(exact.Rat).Mul(x, y), x.Cmp(y), 0))
		q, e := Div(a, b)
		if y.Sign() == 0 {
			equal(t, "by 0", list(q, e), list(api.Fraction{}, api.ErrDivision))
		} else {
			equal(t, "quotient", rat(q), new(exact.Rat).Quo(x, y))
			equal(t, "valid", Valid(q), true)
		}
		equal(t, "valid", list(Valid(s), Valid(d), Valid(p)), list(true, true, true))
	}
	for _, x := range bad {
		_, e := Make(x, api.Big{})
		_, f := Make(FromInt(1), x)
		equal(t, "make", list(e, f), list(api.ErrInvalid, api.ErrInvalid))
	}
	for _, x := range [][3]int{{1, 0, 8}, {0, 0, 8}, {math.MinInt, math.MinInt, 0}, {math.MaxInt, math.MinInt, 0}} {
		_, e := Of(x[0], x[1])
		equal(t, fmt.Sprint(x), int(e), x[2])
	}
	equal(t, "of", list(Text(of(6, -4)), Text(of(math.MinInt, -2)), of(0, -7)), list("-3/2", "4611686018427387904", api.Fraction{Den: FromInt(1)}))
}

func TestP1_4Errors(t *testing.T) {
	half, wrong := of(1, 2), api.Fraction{Num: FromInt(2), Den: FromInt(4)}
	for _, f := range []func(a, b api.Fraction) (api.Fraction, api.Errno){Add, Sub, Mul, Div} {
		a, e := f(half, wrong)
		b, g := f(wrong, of(0, 1))
		equal(t, "invalid", list(a, e, b, g), list(api.Fraction{}, 1, api.Fraction{}, 1))
	}
	equal(t, "compare", list(Cmp(half, wrong), Cmp(wrong, half)), list(0, 0))
	top, _ := Make(power(32*256-1), FromInt(1))
	least, _ := Make(FromInt(1), power(32*256-1))
	_, e := Add(top, top)
	_, f := Mul(least, half)
	one, g := Mul(top, least)
	_, h := Div(top, half)
	sum, i := Add(top, of(-1, 1))
	equal(t, "limits", list(e, f, Text(one), g, h, i, len(sum.Num.Words)), list(3, 3, "1", 0, 3, 0, 256))
}

func TestP1_5(t *testing.T) {
	equal(t, "texts", list(Text(of(-1, 3)), Text(of(4, 2)), Text(of(0, 2)), Text(api.Fraction{})), list("-1/3", "2", "0", ""))
	for text, want := range map[string]string{"-12.50": "-25/2", "+7": "7", "007": "7", "-0.0": "0", "0.000000001": "1/1000000000",
		"999999999999999.999999999": "999999999999999999999999/1000000000", "": "no", "-": "no", "+": "no", ".5": "no", "5.": "no", "1e5": "no", "-.": "no",
		"1234567890123456": "no", "0.0000000001": "no", "1.2.3": "no", "+-1": "no", " 1": "no", "1 ": "no", "1,5": "no", "٣": "no", strings.Repeat("1", 999): "no"} {
		f, ok := Decimal(text)
		if !ok {
			equal(t, text, f, api.Fraction{})
			equal(t, text, "no", want)
			continue
		}
		equal(t, text, list(Text(f), Valid(f)), list(want, true))
	}
}

// TestRule1 checks that no function changes its arguments or gives out their memory.
func TestRule1(t *testing.T) {
	a, b := of(0, 1), api.Fraction{Num: FromInt(1 << 40), Den: FromInt(3)}
	for _, f := range []func(a, b api.Fraction) (api.Fraction, api.Errno){Add, Sub, Mul, Div} {
		for _, x := range [][2]api.Fraction{{a, b}, {b, a}, {b, b}} {
			f(x[0], x[1])
			s, e := f(x[0], x[1])
			if e == api.OK && len(s.Num.Words) > 0 {
				s.Num.Words[0], s.Den.Words[0] = 99, 99
			}
		}
	}
	m, _ := Make(b.Num, b.Den)
	m.Num.Words[0], m.Den.Words[0] = 99, 99
	s, _ := AddBig(b.Num, api.Big{})
	s.Words[0] = 99
	_, r, _ := DivBig(b.Num, power(90))
	r.Words[0] = 99
	if !reflect.DeepEqual(b, api.Fraction{Num: FromInt(1 << 40), Den: FromInt(3)}) || !reflect.DeepEqual(a, of(0, 1)) {
		t.Error("an argument was changed")
	}
}

func TestMost(t *testing.T) {
	top := power(32*256 - 1)
	a, e := AddBig(top, FromInt(1))
	equal(t, "words", list(len(a.Words), e), list(256, 0))
	f, ok := Decimal("-999999999999999.999999999")
	equal(t, "digits", list(Text(f), ok), list("-999999999999999999999999/1000000000", true))
	equal(t, "all of several", list(validAll(of(1, 1), api.Fraction{}), validAll(of(1, 2), of(1, 3))), list(false, true))
}

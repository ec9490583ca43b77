package number_test

import (
	"math"
	"math/big"
	"strconv"
	"strings"
	"testing"

	"elenchus/api"
	"elenchus/number"
)

const (
	most  = math.MaxInt64
	least = math.MinInt64
)

// edges: numbers at which sums, products and quotients turn, and ordinary ones.
func edges() []int64 {
	l := []int64{0, 42, -42, 1000003, -1000003, 3037000499, 3037000500, -3037000499, -3037000500, most / 3, least / 3}
	for _, n := range []int64{0, 1 << 31, -1 << 31, 1 << 32, -1 << 32, 1 << 62, -1 << 62, most - 3, least + 3} {
		for d := int64(-3); d <= 3; d++ {
			l = append(l, n+d)
		}
	}
	return l
}

// floorMod: what is left of a by b, of b's sign.
func floorMod(a, b *big.Int) *big.Int {
	m := new(big.Int).Rem(a, b)
	if m.Sign() != 0 && m.Sign() != b.Sign() {
		m.Add(m, b)
	}
	return m
}

// P1.1: every call on every pair of edges, held against numbers without bounds.
func TestIntsAgainstBig(t *testing.T) {
	type exact func(a, b *big.Int) *big.Int
	for _, x := range []struct {
		name    string
		do      func(a, b int64) (int64, api.Errno)
		exact   exact
		divides bool
	}{
		{"Add", number.Add, func(a, b *big.Int) *big.Int { return new(big.Int).Add(a, b) }, false},
		{"Sub", number.Sub, func(a, b *big.Int) *big.Int { return new(big.Int).Sub(a, b) }, false},
		{"Mul", number.Mul, func(a, b *big.Int) *big.Int { return new(big.Int).Mul(a, b) }, false},
		{"Div", number.Div, func(a, b *big.Int) *big.Int { return new(big.Int).Quo(a, b) }, true},
		{"Rem", number.Rem, func(a, b *big.Int) *big.Int { return new(big.Int).Rem(a, b) }, true},
		{"Mod", number.Mod, floorMod, true},
	} {
		for _, a := range edges() {
			for _, b := range edges() {
				want, wantE := int64(0), api.OK
				if x.divides && b == 0 {
					wantE = api.ErrArg
				} else if n := x.exact(big.NewInt(a), big.NewInt(b)); n.IsInt64() {
					want = n.Int64()
				} else {
					wantE = api.ErrOver
				}
				if got, e := x.do(a, b); got != want || e != wantE {
					t.Errorf("%s(%d, %d) = %d, %d; want %d, %d", x.name, a, b, got, e, want, wantE)
				}
			}
		}
	}
}

// P1.1: what the chapter names, spelt out.
func TestIntsByName(t *testing.T) {
	for _, x := range []struct {
		name    string
		do      func(a, b int64) (int64, api.Errno)
		a, b, n int64
		e       api.Errno
	}{
		{"Add", number.Add, 20, 22, 42, api.OK},
		{"Add", number.Add, most, 1, 0, api.ErrOver},
		{"Add", number.Add, least, -1, 0, api.ErrOver},
		{"Sub", number.Sub, 20, 22, -2, api.OK},
		{"Sub", number.Sub, 0, least, 0, api.ErrOver},
		{"Sub", number.Sub, -1, least, most, api.OK},
		{"Mul", number.Mul, -6, 7, -42, api.OK},
		{"Mul", number.Mul, least, -1, 0, api.ErrOver},
		{"Mul", number.Mul, -1, least, 0, api.ErrOver},
		{"Mul", number.Mul, 1 << 32, -1 << 31, least, api.OK},
		{"Mul", number.Mul, 1 << 32, 1 << 32, 0, api.ErrOver},
		{"Div", number.Div, -7, 2, -3, api.OK},
		{"Div", number.Div, 7, -2, -3, api.OK},
		{"Div", number.Div, -7, -2, 3, api.OK},
		{"Div", number.Div, most, -1, -most, api.OK},
		{"Div", number.Div, least, -1, 0, api.ErrOver},
		{"Div", number.Div, least, 0, 0, api.ErrArg},
		{"Div", number.Div, 0, 0, 0, api.ErrArg},
		{"Rem", number.Rem, -7, 2, -1, api.OK},
		{"Rem", number.Rem, 7, -2, 1, api.OK},
		{"Rem", number.Rem, least, -1, 0, api.OK},
		{"Rem", number.Rem, 7, 0, 0, api.ErrArg},
		{"Mod", number.Mod, -7, 2, 1, api.OK},
		{"Mod", number.Mod, 7, -2, -1, api.OK},
		{"Mod", number.Mod, -6, 2, 0, api.OK},
		{"Mod", number.Mod, least, -1, 0, api.OK},
		{"Mod", number.Mod, least, 0, 0, api.ErrArg},
	} {
		if n, e := x.do(x.a, x.b); n != x.n || e != x.e {
			t.Errorf("%s(%d, %d) = %d, %d; want %d, %d", x.name, x.a, x.b, n, e, x.n, x.e)
		}
	}
}

// P1.2: texts that are decimals of numbers.
func TestText(t *testing.T) {
	for s, n := range map[string]int64{"0": 0, "7": 7, "-7": -7, "10": 10, "-10": -10, "1234567890": 1234567890, "9223372036854775807": most, "-9223372036854775808": least} {
		if got := number.Text(n); got != s {
			t.Errorf("Text(%d) = %q; want %q", n, got, s)
		}
		if got, e := number.Parse(s); got != n || e != api.OK {
			t.Errorf("Parse(%q) = %d, %d; want %d", s, got, e, n)
		}
	}
}

// P1.2: texts that are none, and such as are out of range.
func TestParseRefuses(t *testing.T) {
	long := strings.Repeat("9", 70000)
	for e, l := range map[api.Errno][]string{
		api.ErrForm: {"", "-", "--1", "-0", "00", "-00", "01", "-01", "007", "+1", "+0", " 1", "1 ", "1\n", "1_000", "0x1", "0c", "1.0", "1e3", "a", "1a", "-a", "٣", "1\x00", "１", "−1", "/", ":", "9223372036854775808a", "99999999999999999999999-", "09223372036854775808", "00000000000000000000000000001", long + "x"},
		api.ErrOver: {"9223372036854775808", "-9223372036854775809", "9223372036854775810", "18446744073709551615", "18446744073709551616", "18446744073709551617", "-18446744073709551616", "100000000000000000000", "-100000000000000000000", long, "-" + long},
	} {
		for _, s := range l {
			if n, got := number.Parse(s); n != 0 || got != e {
				t.Errorf("Parse(%.40q) = %d, %d; want 0, %d", s, n, got, e)
			}
		}
	}
}

// noNumber is the bits of what is no number, as a sum or product tells it.
const noNumber = 0x7ff8000000000001

// words: parts of all kinds: noughts, ordinary ones, the least and the greatest, those without bounds, those that are no number.
func words() []uint64 {
	return []uint64{
		0, 1 << 63, 1, 1<<63 | 1, 0x3ff0000000000000, 0xbff0000000000000, 0x4008000000000000, 0x3fd5555555555555, 0xc059000000000000,
		0x000fffffffffffff, 0x0010000000000000, 0x7fefffffffffffff, 0xffefffffffffffff, 0x7ff0000000000000, 0xfff0000000000000,
		noNumber, 0x7ff8000000000000, 0xfff8000000000000, 0x7ff0000000000001, 0x7ff8000000000abc, 0xffffffffffffffff,
	}
}

// P1.3: words are the bits of the parts, and lead back.
func TestWords(t *testing.T) {
	re, im := number.Words(complex(1, -2))
	if re != 0x3ff0000000000000 || im != 0xc000000000000000 {
		t.Errorf("Words(1-2i) = %x, %x", re, im)
	}
	if c := number.Of(0x3ff8000000000000, 0xc008000000000000); c != complex(1.5, -3) {
		t.Error("Of(1.5, -3) =", c)
	}
	if re, im := number.Words(complex(0, math.Copysign(0, -1))); re != 0 || im != 1<<63 {
		t.Errorf("Words(0-0i) = %x, %x", re, im)
	}
	for _, a := range words() {
		for _, b := range words() {
			c := number.Of(a, b)
			if math.Float64bits(real(c)) != a || math.Float64bits(imag(c)) != b {
				t.Errorf("Of(%x, %x) = %v", a, b, c)
			}
			if re, im := number.Words(c); re != a || im != b {
				t.Errorf("Words(Of(%x, %x)) = %x, %x", a, b, re, im)
			}
		}
	}
}

// P1.3: sums and products of ordinary complex numbers.
func TestComplexOrdinary(t *testing.T) {
	for _, x := range []struct {
		name    string
		do      func(a, b complex128) complex128
		a, b, c complex128
	}{
		{"AddC", number.AddC, complex(1, 2), complex(10, 20), complex(11, 22)},
		{"AddC", number.AddC, complex(-1.5, 0.25), complex(1, 0.5), complex(-0.5, 0.75)},
		{"SubC", number.SubC, complex(1, 2), complex(10, 30), complex(-9, -28)},
		{"SubC", number.SubC, complex(-1.5, 0.25), complex(1, 0.5), complex(-2.5, -0.25)},
		{"MulC", number.MulC, complex(1, 2), complex(3, 5), complex(-7, 11)},
		{"MulC", number.MulC, complex(0, 1), complex(0, 1), complex(-1, 0)},
		{"MulC", number.MulC, complex(2, 0), complex(3, -4), complex(6, -8)},
	} {
		if c := x.do(x.a, x.b); c != x.c {
			t.Errorf("%s(%v, %v) = %v; want %v", x.name, x.a, x.b, c, x.c)
		}
	}
}

// bitsOf: the words of a part that comes of a sum or product.
func bitsOf(f float64) uint64 {
	if f != f {
		return noNumber
	}
	return math.Float64bits(f)
}

// rounded: a product of two floats, rounded once, without a machine's own product.
func rounded(a, b float64) float64 {
	if math.IsNaN(a) || math.IsNaN(b) || math.IsInf(a, 0) || math.IsInf(b, 0) || a == 0 || b == 0 {
		return a * b // alone: there is no sum to join it with
	}
	f, _ := new(big.Float).SetPrec(200).Mul(big.NewFloat(a), big.NewFloat(b)).Float64() // exact till the last step
	return f
}

// P1.3: the words that come of parts of all kinds, part by part, each product rounded.
func TestComplexParts(t *testing.T) {
	for _, p := range words() {
		for _, q := range words() {
			for _, r := range words() {
				for _, s := range words() {
					checkParts(t, p, q, r, s)
				}
			}
		}
	}
}

func checkParts(t *testing.T, wp, wq, wr, ws uint64) {
	p, q, r, s := math.Float64frombits(wp), math.Float64frombits(wq), math.Float64frombits(wr), math.Float64frombits(ws)
	a, b := complex(p, q), complex(r, s)
	pr, qs, ps, qr := rounded(p, r), rounded(q, s), rounded(p, s), rounded(q, r)
	for _, x := range []struct {
		name   string
		got    complex128
		re, im float64
	}{
		{"AddC", number.AddC(a, b), p + r, q + s},
		{"SubC", number.SubC(a, b), p - r, q - s},
		{"MulC", number.MulC(a, b), pr - qs, ps + qr},
	} {
		re, im := number.Words(x.got)
		if re != bitsOf(x.re) || im != bitsOf(x.im) {
			t.Errorf("%s of (%x, %x), (%x, %x) = %x, %x; want %x, %x", x.name, wp, wq, wr, ws, re, im, bitsOf(x.re), bitsOf(x.im))
		}
	}
}

// P1.3: a product is rounded ahead of the sum, in both parts.
func TestProductsAreRounded(t *testing.T) {
	x := 1 + 1.0/(1<<30)
	if c := number.MulC(complex(x, x), complex(x, x)); real(c) != 0 {
		t.Error("the real part joins a product and the difference:", c)
	}
	if c := number.MulC(complex(x, x), complex(-x, x)); imag(c) != 0 {
		t.Error("the imaginary part joins a product and the sum:", c)
	}
}

// P1.3: a part that is no number is one of certain bits; the other part stays.
func TestNoNumber(t *testing.T) {
	inf, no := math.Inf(1), math.Float64frombits(0xfff8000000000abc)
	for _, x := range []struct {
		name   string
		c      complex128
		re, im uint64
	}{
		{"Inf - Inf ahead", number.SubC(complex(inf, 3), complex(inf, 1)), noNumber, 0x4000000000000000},
		{"Inf - Inf behind", number.SubC(complex(3, inf), complex(1, inf)), 0x4000000000000000, noNumber},
		{"Inf + -Inf", number.AddC(complex(inf, 1), complex(-inf, 1)), noNumber, 0x4000000000000000},
		{"none + 1", number.AddC(complex(no, 1), complex(1, 1)), noNumber, 0x4000000000000000},
		{"1 - none", number.SubC(complex(3, 1), complex(1, no)), 0x4000000000000000, noNumber},
		{"Inf * 0", number.MulC(complex(inf, 0), complex(0, 0)), noNumber, noNumber},
		{"none * 1", number.MulC(complex(no, 0), complex(1, 0)), noNumber, noNumber},
	} {
		if re, im := number.Words(x.c); re != x.re || im != x.im {
			t.Errorf("%s: %x, %x; want %x, %x", x.name, re, im, x.re, x.im)
		}
	}
}

// P1.3: the texts of complex numbers, and back: every word, none made one with another.
func TestTextC(t *testing.T) {
	for _, x := range []struct {
		re, im uint64
		s      string
	}{
		{0, 0, "0c00000000000000000000000000000000"},
		{1, 1 << 63, "0c00000000000000018000000000000000"},
		{0x0123456789abcdef, 0xfedcba9876543210, "0c0123456789abcdeffedcba9876543210"},
		{1<<64 - 1, 0, "0cffffffffffffffff0000000000000000"},
		{0x3ff0000000000000, 0xc000000000000000, "0c3ff0000000000000c000000000000000"},
		{0x7ff8000000000abc, noNumber, "0c7ff8000000000abc7ff8000000000001"},
	} {
		if s := number.TextC(x.re, x.im); s != x.s {
			t.Errorf("TextC(%x, %x) = %q; want %q", x.re, x.im, s, x.s)
		}
		if re, im, e := number.ParseC(x.s); re != x.re || im != x.im || e != api.OK {
			t.Errorf("ParseC(%q) = %x, %x, %d", x.s, re, im, e)
		}
	}
	for _, a := range words() {
		for _, b := range words() {
			if re, im, e := number.ParseC(number.TextC(a, b)); re != a || im != b || e != api.OK {
				t.Errorf("ParseC(TextC(%x, %x)) = %x, %x, %d", a, b, re, im, e)
			}
		}
	}
}

// P1.3: texts that are no complex numbers: of another length, or with one byte that may not be.
func TestParseCRefuses(t *testing.T) {
	const good = "0c0123456789abcdeffedcba9876543210"
	l := []string{"", "0", "0c", "0c0", good[:len(good)-1], good + "0", good + " ", " " + good, "-" + good, good[2:], "c" + good, good + good, "00" + good[2:], "1c" + good[2:], "0C" + good[2:], "cc" + good[2:], "0x" + good[2:], "  " + good[2:]}
	for at := 2; at < len(good); at++ {
		for _, b := range []byte{'A', 'F', 'g', '/', ':', '`', '@', 'G', ' ', '_', '-', '+', 'x', 0, 0xff} {
			l = append(l, good[:at]+string([]byte{b})+good[at+1:])
		}
	}
	for _, s := range l {
		if re, im, e := number.ParseC(s); re != 0 || im != 0 || e != api.ErrForm {
			t.Errorf("ParseC(%q) = %x, %x, %d; want 0, 0, %d", s, re, im, e, api.ErrForm)
		}
	}
}

// P1.3: the order of words: without a sign, the real parts first.
func TestCompareC(t *testing.T) {
	for _, x := range []struct {
		re, im, re2, im2 uint64
		want             int
	}{
		{0, 0, 0, 0, 0},
		{noNumber, noNumber, noNumber, noNumber, 0},
		{1, 9, 2, 0, -1},
		{2, 0, 1, 9, 1},
		{1, 2, 1, 3, -1},
		{1, 3, 1, 2, 1},
		{1<<63 - 1, 0, 1 << 63, 0, -1},
		{1 << 63, 0, 1<<63 - 1, 1<<64 - 1, 1},
		{5, 1<<63 - 1, 5, 1 << 63, -1},
		{5, 1 << 63, 5, 0, 1},
		{1<<64 - 1, 0, 0, 1<<64 - 1, 1},
		{0, 0, 1 << 63, 0, -1},
	} {
		if got := number.CompareC(x.re, x.im, x.re2, x.im2); got != x.want {
			t.Errorf("CompareC(%x, %x, %x, %x) = %d; want %d", x.re, x.im, x.re2, x.im2, got, x.want)
		}
	}
}

// P1.3: the texts of complex numbers stand in their order, and it goes both ways.
func TestCompareCIsAnOrder(t *testing.T) {
	for _, p := range words() {
		for _, q := range words() {
			for _, r := range words() {
				for _, s := range words() {
					got := number.CompareC(p, q, r, s)
					if got != strings.Compare(number.TextC(p, q), number.TextC(r, s)) || got != -number.CompareC(r, s, p, q) {
						t.Errorf("CompareC(%x, %x, %x, %x) = %d", p, q, r, s, got)
					}
				}
			}
		}
	}
}

// P1.4: Parse of Text is the number.
func TestParseOfText(t *testing.T) {
	for _, n := range edges() {
		s := number.Text(n)
		if got, e := number.Parse(s); got != n || e != api.OK || s != strconv.FormatInt(n, 10) {
			t.Errorf("Parse(Text(%d)) = %d, %d", n, got, e)
		}
	}
}

// P1.4: a is Div times b and Rem; Mod and Rem are alike but for b.
func TestDivTimesB(t *testing.T) {
	for _, a := range edges() {
		for _, b := range edges() {
			if b == 0 || a == least && b == -1 {
				continue
			}
			div, _ := number.Div(a, b)
			rem, _ := number.Rem(a, b)
			mod, _ := number.Mod(a, b)
			product, e := number.Mul(div, b)
			sum, e2 := number.Add(product, rem)
			if sum != a || e != api.OK || e2 != api.OK {
				t.Errorf("%d: Div times %d is %d, Rem %d", a, b, product, rem)
			}
			if mod != rem && mod != rem+b {
				t.Errorf("%d by %d: Mod %d, Rem %d", a, b, mod, rem)
			}
			if rem != 0 && (rem < 0) != (a < 0) || mod != 0 && (mod < 0) != (b < 0) {
				t.Errorf("%d by %d: the signs of Mod %d, Rem %d", a, b, mod, rem)
			}
		}
	}
}

// P1.4: MulC goes both ways round, to the bit.
func TestMulCBothWays(t *testing.T) {
	l := append(words(), math.Float64bits(1+1.0/(1<<30)), math.Float64bits(-0.1), math.Float64bits(1e200))
	for _, p := range l {
		for _, q := range l {
			for _, r := range l {
				for _, s := range l {
					a, b := number.Of(p, q), number.Of(r, s)
					re, im := number.Words(number.MulC(a, b))
					re2, im2 := number.Words(number.MulC(b, a))
					if re != re2 || im != im2 {
						t.Errorf("MulC of (%x, %x), (%x, %x): %x, %x, the other way round %x, %x", p, q, r, s, re, im, re2, im2)
					}
				}
			}
		}
	}
}

// Package number: numbers of 64 bits, and complex ones: see ../../shared/doc/01-number.md.
package number

import (
	"math"
	"strconv"
	"strings"

	"elenchus/api"
)

// Add is a + b.
func Add(a, b int64) (int64, api.Errno) {
	if b > 0 && a > math.MaxInt64-b || b < 0 && a < math.MinInt64-b {
		return 0, api.ErrOver
	}
	return a + b, api.OK
}

// Sub is a - b.
func Sub(a, b int64) (int64, api.Errno) {
	if b > 0 && a < math.MinInt64+b || b < 0 && a > math.MaxInt64+b {
		return 0, api.ErrOver
	}
	return a - b, api.OK
}

// Mul is a times b.
func Mul(a, b int64) (int64, api.Errno) {
	if productIsOver(a, b) {
		return 0, api.ErrOver
	}
	return a * b, api.OK
}

// productIsOver asks by quotients, since the product itself would wrap.
func productIsOver(a, b int64) bool {
	switch {
	case a == 0 || b == 0:
		return false
	case a > 0 && b > 0:
		return a > math.MaxInt64/b
	case a > 0:
		return b < math.MinInt64/a
	case b > 0:
		return a < math.MinInt64/b
	}
	return b < math.MaxInt64/a
}

// Div is the quotient of a by b, towards 0.
func Div(a, b int64) (int64, api.Errno) {
	switch {
	case b == 0:
		return 0, api.ErrArg
	case a == math.MinInt64 && b == -1:
		return 0, api.ErrOver
	}
	return a / b, api.OK
}

// Mod is what Div leaves, of b's sign.
func Mod(a, b int64) (int64, api.Errno) {
	left, e := Rem(a, b)
	if e == api.OK && left != 0 && (left < 0) != (b < 0) {
		left += b // no wrap: their signs differ
	}
	return left, e
}

// Rem is what Div leaves, of a's sign.
func Rem(a, b int64) (int64, api.Errno) {
	switch b {
	case 0:
		return 0, api.ErrArg
	case -1: // the quotient of the least number would wrap, but nothing is left of any
		return 0, api.OK
	}
	return a % b, api.OK
}

// Text is n's decimal.
func Text(n int64) string {
	return strconv.FormatInt(n, 10)
}

// Parse is the number whose decimal s is.
func Parse(s string) (int64, api.Errno) {
	if !isDecimal(s) {
		return 0, api.ErrForm
	}
	n, err := strconv.ParseInt(s, 10, 64)
	if err != nil { // the form is right, so it is the range
		return 0, api.ErrOver
	}
	return n, api.OK
}

// isDecimal: does s have a decimal's form, whatever its length?
func isDecimal(s string) bool {
	digits := strings.TrimPrefix(s, "-")
	if digits == "" || s == "-0" || len(digits) > 1 && digits[0] == '0' {
		return false
	}
	for i := range len(digits) {
		if digits[i] < '0' || digits[i] > '9' {
			return false
		}
	}
	return true
}

// Words is the bits of c's parts, the real one's first.
func Words(c complex128) (uint64, uint64) {
	return math.Float64bits(real(c)), math.Float64bits(imag(c))
}

// Of is the complex number of these words.
func Of(re, im uint64) complex128 {
	return complex(math.Float64frombits(re), math.Float64frombits(im))
}

// noNumber is the bits of a part that is no number.
const noNumber = 0x7ff8000000000001

// oneNoNumber keeps f, but that machines differ in the bits of what is no number: there is one of it here.
func oneNoNumber(f float64) float64 {
	if math.IsNaN(f) {
		return math.Float64frombits(noNumber)
	}
	return f
}

// ofParts is the complex number that a sum or product comes to.
func ofParts(re, im float64) complex128 {
	return complex(oneNoNumber(re), oneNoNumber(im))
}

// AddC is a + b.
func AddC(a, b complex128) complex128 {
	return ofParts(real(a)+real(b), imag(a)+imag(b))
}

// SubC is a - b.
func SubC(a, b complex128) complex128 {
	return ofParts(real(a)-real(b), imag(a)-imag(b))
}

// MulC is a times b.
func MulC(a, b complex128) complex128 {
	p, q := real(a), imag(a)
	r, s := real(b), imag(b)
	// Without float64(..) a machine may join a product and the sum, and round but once.
	return ofParts(float64(p*r)-float64(q*s), float64(p*s)+float64(q*r))
}

// A complex number's text: what stands ahead, and a word's digits behind it.
const (
	ahead      = "0c"
	hexDigits  = "0123456789abcdef"
	wordDigits = 16
)

// TextC is the text of the complex number of these words.
func TextC(re, im uint64) string {
	return ahead + wordText(re) + wordText(im)
}

func wordText(w uint64) string {
	var text [wordDigits]byte
	for i := range wordDigits {
		text[wordDigits-1-i] = hexDigits[w&15]
		w >>= 4
	}
	return string(text[:])
}

// ParseC is the words of the complex number whose text s is.
func ParseC(s string) (uint64, uint64, api.Errno) {
	if len(s) != len(ahead)+2*wordDigits || !strings.HasPrefix(s, ahead) {
		return 0, 0, api.ErrForm
	}
	s = s[len(ahead):]
	re, okRe := parseWord(s[:wordDigits])
	im, okIm := parseWord(s[wordDigits:])
	if !okRe || !okIm {
		return 0, 0, api.ErrForm
	}
	return re, im, api.OK
}

// parseWord is strconv's, but that it takes small letters alone.
func parseWord(s string) (uint64, bool) {
	w := uint64(0)
	for i := range len(s) {
		d := strings.IndexByte(hexDigits, s[i])
		if d < 0 {
			return 0, false
		}
		w = w<<4 | uint64(d)
	}
	return w, true
}

// CompareC holds the words of two complex numbers against each other, the real parts' first.
func CompareC(re, im, re2, im2 uint64) int {
	if re != re2 {
		return compareWords(re, re2)
	}
	return compareWords(im, im2)
}

func compareWords(a, b uint64) int {
	switch {
	case a < b:
		return -1
	case a > b:
		return 1
	}
	return 0
}

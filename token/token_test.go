package token_test

import (
	"fmt"
	"math"
	"math/big"
	"math/rand"
	"regexp"
	"slices"
	"strconv"
	"strings"
	"testing"

	"elenchus/api"
	"elenchus/token"
)

// The tokens, spelt out.
func atom(at int, s string) api.Token     { return api.Token{Kind: api.KAtom, Text: s, At: at} }
func quoted(at int, s string) api.Token   { return api.Token{Kind: api.KQuote, Text: s, At: at} }
func variable(at int, s string) api.Token { return api.Token{Kind: api.KVar, Text: s, At: at} }
func whole(at int, n int64) api.Token     { return api.Token{Kind: api.KInt, Int: n, At: at} }
func punct(at int, s string) api.Token    { return api.Token{Kind: api.KPunct, Text: s, At: at} }
func open(at int) api.Token               { return api.Token{Kind: api.KOpen, At: at} }
func end(at int) api.Token                { return api.Token{Kind: api.KEnd, At: at} }
func cpx(at int, re, im uint64) api.Token {
	return api.Token{Kind: api.KCpx, Re: re, Im: im, At: at}
}

// The bytes, sort by sort.
const (
	blanks = " \t\n\r"
	signs  = `+-*/\^<>=~:.?@#&$`
	solos  = "!;"
	puncts = "()[],|"
	small  = "abcdefghijklmnopqrstuvwxyz"
	great  = "ABCDEFGHIJKLMNOPQRSTUVWXYZ"
	digits = "0123456789"
	word   = small + great + digits + "_"
)

// short is s, or its beginning.
func short(s string) string {
	if len(s) > 60 {
		return fmt.Sprintf("%q.. (%d bytes)", s[:60], len(s))
	}
	return fmt.Sprintf("%q", s)
}

// gives: s is to have just these tokens.
func gives(t *testing.T, s string, want ...api.Token) {
	t.Helper()
	if l, at, e := token.All(s); !slices.EqualFunc(l, want, same) || at != 0 || e != api.OK {
		t.Errorf("All(%s) = %v, %d, %d; want %v", short(s), l, at, e, want)
	}
}

// same holds every field, those without meaning too.
func same(a, b api.Token) bool { return a == b }

// refuses: s is to have no tokens, for the reason e, at this place.
func refuses(t *testing.T, s string, at int, e api.Errno) {
	t.Helper()
	if l, gotAt, gotE := token.All(s); l != nil || gotAt != at || gotE != e {
		t.Errorf("All(%s) = %v, %d, %d; want error %d at %d", short(s), l, gotAt, gotE, e, at)
	}
}

// P11.1: the chapter's example, and an ordinary clause.
func TestClauses(t *testing.T) {
	gives(t, "f(X, 'a b').", atom(0, "f"), open(1), variable(2, "X"), punct(3, ","), quoted(5, "a b"), punct(10, ")"), end(11))
	gives(t, "len([_|T], N) :- len(T, M), N is M+1. % and on\n",
		atom(0, "len"), open(3), punct(4, "["), variable(5, "_"), punct(6, "|"), variable(7, "T"), punct(8, "]"), punct(9, ","), variable(11, "N"), punct(12, ")"),
		atom(14, ":-"), atom(17, "len"), open(20), variable(21, "T"), punct(22, ","), variable(24, "M"), punct(25, ")"), punct(26, ","),
		variable(28, "N"), atom(30, "is"), variable(33, "M"), atom(34, "+"), whole(35, 1), end(36))
	gives(t, "a.\nb.", atom(0, "a"), end(1), atom(3, "b"), end(4))
}

// P11.1: what stands between tokens is no token.
func TestBetween(t *testing.T) {
	for _, s := range []string{"", " ", "\t", "\n", "\r", " \t\n\r", "%", "%\n", "% a remark", "% a remark\n", "%\n%\n", "%%", "% /*", "% 'a", "% \x00\xff", "%\r\n",
		"/**/", "/***/", "/****/", "/* a remark */", "/* a\nremark */", "/*\n*/", "/*/*/", "/* /* */", "/* ' */", "/* % */", "/* \x00\xff */", "/**/ %", "%\n/**/", "/**//**/", "/**/%/**/", " /**/ /**/ "} {
		gives(t, s)
		gives(t, s+"\na", atom(len(s)+1, "a"))
		gives(t, "a "+s, atom(0, "a"))
	}
	gives(t, "a/**/b", atom(0, "a"), atom(5, "b"))
	gives(t, "a%b\nc", atom(0, "a"), atom(4, "c"))
	gives(t, "a%b\rc", atom(0, "a")) // the line goes on behind that byte
	gives(t, "%a\n\nb", atom(4, "b"))
	gives(t, "/* */ */", atom(6, "*/"))
	for _, s := range []string{"/*", "/* ", "/*/", "/* *", "/**", "/* * /", "/* a\n. ", "/*/ *", "/*%", "/*'*'/"} {
		refuses(t, s, 0, api.ErrForm)
		refuses(t, "%*/\n ab "+s, 8, api.ErrForm)
		refuses(t, "ab"+s, 2, api.ErrForm)
		refuses(t, "/**/"+s, 4, api.ErrForm)
	}
}

// P11.1: every byte by itself.
func TestEachByte(t *testing.T) {
	for n := range 256 {
		s := string([]byte{byte(n)})
		switch {
		case s == "." || s == "%":
			continue // see TestEnd, TestBetween
		case strings.Contains(blanks, s):
			gives(t, s)
		case strings.Contains(small+signs+solos, s):
			gives(t, s, atom(0, s))
		case strings.Contains(great+"_", s):
			gives(t, s, variable(0, s))
		case strings.Contains(digits, s):
			gives(t, s, whole(0, int64(n-'0')))
		case strings.Contains(puncts, s):
			gives(t, s, punct(0, s))
		default:
			refuses(t, s, 0, api.ErrForm)
		}
	}
}

// P11.1: bytes that begin no token, wherever one would begin: what stands ahead of them is one.
func TestBytesThatBeginNone(t *testing.T) {
	for n := range 256 {
		s := string([]byte{byte(n)})
		if n < 128 && strings.Contains(blanks+signs+solos+puncts+word+"%'", s) {
			continue
		}
		for _, ahead := range []string{"", " ", "\n", "%\n", "/**/", "a", "X", "_", "+", "=..", "!", ";", "'q'", "0", "12", "(", "]", ",", "|", "a(", ". ", "a . ", "0c" + strings.Repeat("0", 32)} {
			refuses(t, ahead+s, len(ahead), api.ErrForm)
			refuses(t, ahead+s+"a. ", len(ahead), api.ErrForm)
		}
		gives(t, "'"+s+"'", quoted(0, s))
		gives(t, "%"+s+"\na", atom(3, "a"))
	}
	refuses(t, "é", 0, api.ErrForm)
	refuses(t, "aé", 1, api.ErrForm)
	refuses(t, "{}", 0, api.ErrForm)
	refuses(t, `"a"`, 0, api.ErrForm)
	refuses(t, "a\v", 1, api.ErrForm) // a blank elsewhere, but not here
	refuses(t, "a\f", 1, api.ErrForm)
}

// P11.1: names of small letters, and variables', go on as long as they can.
func TestWords(t *testing.T) {
	for _, first := range small + great + "_" {
		named := variable
		if strings.ContainsRune(small, first) {
			named = atom
		}
		for n := range 256 {
			s := string([]byte{byte(first), byte(n)})
			if n < 128 && strings.Contains(word, s[1:]) {
				gives(t, s, named(0, s))
				gives(t, "9 "+s+word+"!", whole(0, 9), named(2, s+word), atom(4+len(word), "!"))
			} else if l, _, e := token.All(s); e == api.OK && l[0] != named(0, s[:1]) {
				t.Errorf("All(%q) = %v; want a token of one byte first", s, l)
			}
		}
	}
	gives(t, "_ __ _1 _a _A", variable(0, "_"), variable(2, "__"), variable(5, "_1"), variable(8, "_a"), variable(11, "_A"))
	gives(t, "aX Xa a1_B X1_b", atom(0, "aX"), variable(3, "Xa"), atom(6, "a1_B"), variable(11, "X1_b"))
}

// P11.1: a row of signs goes on as long as it goes, whatever it holds; `!` and `;` stand by themselves.
func TestSigns(t *testing.T) {
	gives(t, signs, atom(0, signs))
	for _, a := range signs {
		for _, b := range signs {
			if s := string(a) + string(b); s != "/*" {
				gives(t, s, atom(0, s))
				gives(t, "a"+s+"b", atom(0, "a"), atom(1, s), atom(3, "b"))
			}
		}
		for _, b := range solos {
			gives(t, string(b)+string(a)+"1", atom(0, string(b)), atom(1, string(a)), whole(2, 1))
			gives(t, string(a)+string(b), atom(0, string(a)), atom(1, string(b)))
		}
	}
	gives(t, "!;;!!", atom(0, "!"), atom(1, ";"), atom(2, ";"), atom(3, "!"), atom(4, "!"))
	gives(t, "! ;", atom(0, "!"), atom(2, ";"))
	gives(t, "+/*x", atom(0, "+/*"), atom(3, "x"))
	gives(t, "+/* a */", atom(0, "+/*"), atom(4, "a"), atom(6, "*/"))
	gives(t, "*/*a", atom(0, "*/*"), atom(3, "a"))
	gives(t, "//*a", atom(0, "//*"), atom(3, "a"))
	gives(t, "./**/", atom(0, "./**/"))
	gives(t, "+%-\n-", atom(0, "+"), atom(4, "-"))
	gives(t, "/ *", atom(0, "/"), atom(2, "*"))
	gives(t, "/**/+", atom(4, "+"))
	gives(t, "!/*;*/;", atom(0, "!"), atom(6, ";"))
	refuses(t, "/*+", 0, api.ErrForm)
	refuses(t, "!/*", 1, api.ErrForm)
}

// P11.1: a `(` right behind an atom, with or without quotes, is another token than any other `(`.
func TestOpen(t *testing.T) {
	for _, s := range []string{"a", "aB_9", "+", ".", "=..", "!", ";", "-"} {
		gives(t, s+"(", atom(0, s), open(len(s)))
		gives(t, s+"((", atom(0, s), open(len(s)), punct(len(s)+1, "("))
		gives(t, s+"()", atom(0, s), open(len(s)), punct(len(s)+1, ")"))
		for _, between := range []string{" ", "\t", "\n", "\r", "%\n", "/**/"} {
			if s == "." && between != "/**/" || strings.Contains(signs, s[:1]) && between == "/**/" {
				continue // the full stop; one more row
			}
			gives(t, s+between+"(", atom(0, s), punct(len(s+between), "("))
		}
	}
	for _, s := range []string{"''", "'a'", "'A b'", "'('", `'\\'`, `'\''`} {
		text := strings.NewReplacer(`\\`, `\`, `\'`, "'").Replace(s[1 : len(s)-1])
		gives(t, s+"(", quoted(0, text), open(len(s)))
		gives(t, s+" (", quoted(0, text), punct(len(s)+1, "("))
		gives(t, s+"/**/(", quoted(0, text), punct(len(s)+4, "("))
	}
	gives(t, "X(", variable(0, "X"), punct(1, "("))
	gives(t, "_(", variable(0, "_"), punct(1, "("))
	gives(t, "1(", whole(0, 1), punct(1, "("))
	gives(t, "0c"+strings.Repeat("1", 32)+"(", cpx(0, 0x1111111111111111, 0x1111111111111111), punct(34, "("))
	for _, p := range ")[],|" {
		gives(t, string(p)+"(", punct(0, string(p)), punct(1, "("))
	}
	gives(t, "(", punct(0, "("))
	gives(t, "((", punct(0, "("), punct(1, "("))
	gives(t, "a((b", atom(0, "a"), open(1), punct(2, "("), atom(3, "b"))
	gives(t, ". (", end(0), punct(2, "("))
	gives(t, ".(", atom(0, "."), open(1))
	gives(t, "a[", atom(0, "a"), punct(1, "["))
	gives(t, "[](", punct(0, "["), punct(1, "]"), punct(2, "("))
}

// P11.1: what stands between quotes.
func TestQuotes(t *testing.T) {
	for s, text := range map[string]string{
		"": "", "a": "a", "A b": "A b", " ": " ", "\t\r": "\t\r", "''": "'", "''''": "''", "a''b": "a'b", "''a''": "'a'",
		`\\`: `\`, `\n`: "\n", `\'`: "'", `\\n`: `\n`, `\\\n`: "\\\n", `\'\'`: "''", `\'''`: "''", `''\'`: "''", `\\''`: `\'`, `it''s \\ \n\'`: "it's \\ \n'",
		"%": "%", "/*": "/*", "*/": "*/", `"`: `"`, "é": "é", "\x00\xff": "\x00\xff", "1": "1", "[]": "[]", ".": ".", ". ": ". ", "(": "(",
	} {
		gives(t, "'"+s+"'", quoted(0, text))
		gives(t, "a '"+s+"'b", atom(0, "a"), quoted(2, text), atom(len(s)+4, "b"))
		gives(t, "'"+s+"' 'c'", quoted(0, text), quoted(len(s)+3, "c"))
		for _, bad := range []string{"'" + s, "'" + s + "\n'", "'" + s + `\`, "'" + s + `\'`, "'" + s + `\t'`, "'" + s + "\\\n'"} {
			refuses(t, bad, 0, api.ErrForm)
			refuses(t, "ab  "+bad, 4, api.ErrForm)
		}
	}
	for n := range 256 {
		s := string([]byte{byte(n)})
		if s != "'" && s != "\n" && s != `\` {
			gives(t, "'"+s+"'", quoted(0, s))
		}
		if s != "'" && s != "n" && s != `\` {
			refuses(t, `'\`+s+"'", 0, api.ErrForm)
			refuses(t, `'\`+s+`''`, 0, api.ErrForm)
		}
	}
	refuses(t, "'", 0, api.ErrForm)
	refuses(t, "'''", 0, api.ErrForm) // the second and third are one `'` in it
	refuses(t, "'a''", 0, api.ErrForm)
	refuses(t, "a'", 1, api.ErrForm)
	refuses(t, "'a' 'b", 4, api.ErrForm)
	gives(t, "'a' 'b'", quoted(0, "a"), quoted(4, "b"))
	gives(t, "'a'b'c'", quoted(0, "a"), atom(3, "b"), quoted(4, "c"))
	gives(t, "'a'%'", quoted(0, "a"))
}

// P11.1: whole numbers, and digits that are none.
func TestInts(t *testing.T) {
	for s, n := range map[string]int64{"0": 0, "7": 7, "10": 10, "12": 12, "1000000": 1000000, "9223372036854775806": math.MaxInt64 - 1, "9223372036854775807": math.MaxInt64} {
		gives(t, s, whole(0, n))
		gives(t, "a "+s+" b", atom(0, "a"), whole(2, n), atom(3+len(s), "b"))
		gives(t, "-"+s, atom(0, "-"), whole(1, n)) // the sign stands by itself
		gives(t, "+"+s+".", atom(0, "+"), whole(1, n), end(1+len(s)))
		gives(t, s+".5", whole(0, n), atom(len(s), "."), whole(len(s)+1, 5))
		gives(t, s+"'a'", whole(0, n), quoted(len(s), "a"))
		for _, bad := range []string{s + "a", s + "z", s + "A", s + "Z", s + "_", s + "_1", s + "e1", s + "aB_", "0" + s, "00" + s, "0" + s + "x"} {
			refuses(t, bad, 0, api.ErrForm)
			refuses(t, bad+". ", 0, api.ErrForm)
			refuses(t, "ab -"+bad, 4, api.ErrForm)
		}
	}
	for _, s := range []string{"9223372036854775808", "9223372036854775809", "9223372036854775810", "10000000000000000000", "18446744073709551616", "18446744073709551617", "99999999999999999999", strings.Repeat("9", 201), "1" + strings.Repeat("0", api.MaxText-20)} {
		refuses(t, s, 0, api.ErrOver)
		refuses(t, "ab "+s+" c", 3, api.ErrOver)
		refuses(t, s+"a", 0, api.ErrForm)
		refuses(t, s+"_", 0, api.ErrForm)
		refuses(t, "0"+s, 0, api.ErrForm)
	}
	for n := range 256 {
		s := string([]byte{'1', byte(n)})
		l, at, e := token.All(s)
		switch {
		case strings.Contains(digits, s[1:]):
			gives(t, s, whole(0, int64(10+n-'0')))
		case n < 128 && strings.Contains(word, s[1:]):
			refuses(t, s, 0, api.ErrForm)
		case e == api.OK && (len(l) == 0 || l[0] != whole(0, 1)), e != api.OK && at != 1:
			t.Errorf("All(%q) = %v, %d, %d; want 1 first, or an error behind it", s, l, at, e)
		}
	}
}

// P11.1: the digits of the least number are one right behind an atom `-`, and nowhere else.
func TestLeast(t *testing.T) {
	const least = "9223372036854775808"
	gives(t, "-"+least, atom(0, "-"), whole(1, math.MinInt64))
	gives(t, "a -"+least+".", atom(0, "a"), atom(2, "-"), whole(3, math.MinInt64), end(22))
	gives(t, "a-"+least, atom(0, "a"), atom(1, "-"), whole(2, math.MinInt64))
	gives(t, "(-"+least+")", punct(0, "("), atom(1, "-"), whole(2, math.MinInt64), punct(21, ")"))
	gives(t, "!-"+least, atom(0, "!"), atom(1, "-"), whole(2, math.MinInt64))
	gives(t, "-9223372036854775807", atom(0, "-"), whole(1, math.MaxInt64))
	for _, ahead := range []string{"", " ", "+", "--", "+-", "-+", "- ", "-\n", "-\t", "-%\n", "- /**/", "'-'", "''", "(", "-(", ",", "!", ";", "- - ", "=..", "-'a'", "- 1 "} {
		refuses(t, ahead+least, len(ahead), api.ErrOver)
		refuses(t, ahead+least+"a", len(ahead), api.ErrForm)
	}
	refuses(t, "-"+least+"a", 1, api.ErrForm)
	refuses(t, "-"+least+"_", 1, api.ErrForm)
	refuses(t, "-0"+least, 1, api.ErrForm)
	refuses(t, "-9223372036854775809", 1, api.ErrOver)
	refuses(t, "-92233720368547758080", 1, api.ErrOver)
	refuses(t, "-10000000000000000000", 1, api.ErrOver)
	refuses(t, "-"+least+" "+least, 21, api.ErrOver)
}

// P11.1: complex numbers, and what begins as one.
func TestComplex(t *testing.T) {
	nought, nines := strings.Repeat("0", 32), strings.Repeat("9", 32)
	gives(t, "0c"+nought, cpx(0, 0, 0))
	gives(t, "0c"+strings.Repeat("f", 32), cpx(0, math.MaxUint64, math.MaxUint64))
	gives(t, "0c0123456789abcdeffedcba9876543210", cpx(0, 0x0123456789abcdef, 0xfedcba9876543210))
	gives(t, "0c3ff0000000000000bff0000000000000", cpx(0, math.Float64bits(1), math.Float64bits(-1)))
	gives(t, "a -0c"+nines+".", atom(0, "a"), atom(2, "-"), cpx(3, 0x9999999999999999, 0x9999999999999999), end(37))
	gives(t, "0c"+nought+" 0c"+nines, cpx(0, 0, 0), cpx(35, 0x9999999999999999, 0x9999999999999999))
	gives(t, "0c"+nought+"+1", cpx(0, 0, 0), atom(34, "+"), whole(35, 1))
	for _, bad := range []string{"0c", "0c1", "0cf", "0c" + nought[1:], "0c" + nought + "0", "0c" + nought + "f", "0c" + nought + "g", "0c" + nought + "A", "0c" + nought + "_", "0c" + nought + nought,
		"0C" + nought, "1c" + nought, "00c" + nought, "0d" + nought, "0c" + nought[1:] + "F", "0c" + nought[1:] + "A", "0cA" + nought[1:], "0c" + nought[1:] + "g", "0cg" + nought[1:], "0c_" + nought[1:], "0c" + nought[1:] + "_", "0c" + nought[1:] + " 0", "0c -" + nought, "0x10"} {
		refuses(t, bad, 0, api.ErrForm)
		refuses(t, "ab,"+bad+" c", 3, api.ErrForm)
	}
	gives(t, "c"+nought, atom(0, "c"+nought))
	gives(t, "a0c"+nought, atom(0, "a0c"+nought))
}

// P11.1: the full stop is a `.` by itself, ahead of white space, of a remark of a line, or of the text's end.
func TestEnd(t *testing.T) {
	for _, behind := range []string{"", " ", "\t", "\n", "\r", "%", "% a", "%\n", " .", "\n%"} {
		want := []api.Token{end(0)}
		if behind == " ." {
			want = append(want, end(2))
		}
		gives(t, "."+behind, want...)
		for _, ahead := range []string{"a", "]", ")", "X", "1", "'a'", "!", ";", "_", "(", ","} {
			if l, at, e := token.All(ahead + "." + behind); e != api.OK || len(l) < 2 || l[1] != end(len(ahead)) {
				t.Errorf("All(%q) = %v, %d, %d; want a full stop behind the first token", ahead+"."+behind, l, at, e)
			}
		}
		gives(t, "+."+strings.TrimSuffix(behind, " ."), atom(0, "+."))
		gives(t, ".."+strings.TrimSuffix(behind, " ."), atom(0, ".."))
	}
	for _, sign := range signs {
		gives(t, "a."+string(sign)+" ", atom(0, "a"), atom(1, "."+string(sign)))
		gives(t, "a"+string(sign)+". ", atom(0, "a"), atom(1, string(sign)+"."))
	}
	gives(t, "a.b", atom(0, "a"), atom(1, "."), atom(2, "b"))
	gives(t, "a.'b'", atom(0, "a"), atom(1, "."), quoted(2, "b"))
	gives(t, ".X", atom(0, "."), variable(1, "X"))
	gives(t, ".1", atom(0, "."), whole(1, 1))
	gives(t, ".,", atom(0, "."), punct(1, ","))
	gives(t, ".;", atom(0, "."), atom(1, ";"))
	gives(t, "./* */", atom(0, "./*"), atom(4, "*/"))
	gives(t, "..%", atom(0, ".."))
	gives(t, ". . .", end(0), end(2), end(4))
	gives(t, ".\n.%\n.", end(0), end(2), end(5))
	gives(t, "/**/.", end(4))
	gives(t, "'.'", quoted(0, "."))
	refuses(t, ".{", 1, api.ErrForm)
	refuses(t, ".\x00", 1, api.ErrForm)
	refuses(t, ".\v", 1, api.ErrForm)
}

// sample is a token by itself, and what of it meets its neighbours.
type sample struct {
	s   string
	t   api.Token
	in  string // which others it runs together with: words, digits, signs, quotes
	atm bool   // is a `(` right behind it a KOpen?
}

func samples() []sample {
	l := []sample{
		{"ab", atom(0, "ab"), "word", true}, {"X_1", variable(0, "X_1"), "word", false}, {"_", variable(0, "_"), "word", false},
		{"12", whole(0, 12), "digits", false}, {"0c" + strings.Repeat("2", 32), cpx(0, 0x2222222222222222, 0x2222222222222222), "digits", false},
		{"+*", atom(0, "+*"), "signs", true}, {".", end(0), "signs", true}, {"!", atom(0, "!"), "", true}, {";", atom(0, ";"), "", true},
		{"'q r'", quoted(0, "q r"), "quotes", true},
	}
	for _, p := range puncts {
		l = append(l, sample{string(p), punct(0, string(p)), "", false})
	}
	return l
}

// P11.1: each sort of token by itself, right behind each other sort, and apart from it.
func TestPairs(t *testing.T) {
	for _, a := range samples() {
		gives(t, a.s, a.t)
		for _, b := range samples() {
			second := b.t
			second.At = len(a.s) + 1
			gives(t, a.s+" "+b.s, a.t, second)
			second.At = len(a.s)
			first := a.t
			if a.s == "." { // by itself no full stop, unless what stands behind is none of a token
				first = atom(0, ".")
			}
			switch wordy := b.in == "word" || b.in == "digits"; {
			case a.in == "word" && wordy:
				gives(t, a.s+b.s, api.Token{Kind: a.t.Kind, Text: a.s + b.s})
			case a.s == "12" && b.s == "12":
				gives(t, "1212", whole(0, 1212))
			case a.in == "digits" && wordy:
				refuses(t, a.s+b.s, 0, api.ErrForm)
			case a.in == "signs" && b.in == "signs":
				gives(t, a.s+b.s, atom(0, a.s+b.s))
			case a.in == "quotes" && b.in == "quotes":
				gives(t, a.s+b.s, quoted(0, "q r'q r"))
			case b.s == "(" && a.atm:
				gives(t, a.s+b.s, first, open(len(a.s)))
			default:
				gives(t, a.s+b.s, first, second)
			}
		}
	}
}

// P11.1: names of MaxName bytes, and of one more; what is no name may be longer.
func TestLongNames(t *testing.T) {
	most := strings.Repeat("a", api.MaxName)
	named := strings.ToUpper(most)
	row := strings.Repeat("+", api.MaxName)
	gives(t, most+" b", atom(0, most), atom(201, "b"))
	gives(t, named+" b", variable(0, named), atom(201, "b"))
	gives(t, row+" b", atom(0, row), atom(201, "b"))
	gives(t, "_"+most[1:], variable(0, "_"+most[1:]))
	gives(t, strings.Repeat(".", api.MaxName), atom(0, strings.Repeat(".", api.MaxName)))
	for _, long := range []string{most + "a", most + "_", most + "A9", named + "A", named + "a", row + "-", row + ".", most + most} {
		refuses(t, long, 0, api.ErrLong)
		refuses(t, "ab "+long+" c", 3, api.ErrLong)
		refuses(t, "'ab'('x',"+long+" c", 9, api.ErrLong)
	}
	for _, part := range []string{"a", " ", "''", `\\`, `\n`, `\'`, "\xff", "\x00"} {
		text := strings.NewReplacer("''", "'", `\\`, `\`, `\n`, "\n", `\'`, "'").Replace(part)
		inside := strings.Repeat(part, api.MaxName)
		gives(t, "'"+inside+"'", quoted(0, strings.Repeat(text, api.MaxName))) // what it comes to counts, not how it is written
		refuses(t, "'"+inside+"b'", 0, api.ErrLong)
		refuses(t, "ab '"+inside+part+"' c", 3, api.ErrLong)
		refuses(t, "ab '"+inside+part, 3, api.ErrForm)
		refuses(t, "ab '"+inside+part+"\n'", 3, api.ErrForm)
		refuses(t, "ab '"+inside+part+`\t'`, 3, api.ErrForm) // of one token's errors that which the sentence lists first
	}
	gives(t, "/*"+row+"-*/"+"%"+most+"a")
	refuses(t, strings.Repeat("1", 201), 0, api.ErrOver)
}

// P11.1: texts of MaxText bytes, and of one more.
func TestLongTexts(t *testing.T) {
	for _, part := range []string{" ", "\n", "a ", "(", "!", "'a' ", "X\n", "%\n", "/**/", ". ", "0 "} {
		s := strings.Repeat(part, api.MaxText/len(part))
		l, at, e := token.All(s)
		one, _, _ := token.All(part)
		if len(s) != api.MaxText || len(l) != len(one)*len(s)/len(part) || at != 0 || e != api.OK {
			t.Errorf("All(%s) = %d tokens, %d, %d", short(s), len(l), at, e)
		}
		refuses(t, s+" ", 0, api.ErrLong)
		refuses(t, s[len(part):]+"{", len(s)-len(part), api.ErrForm)
		refuses(t, s+"{", 0, api.ErrLong)
	}
	gives(t, "%"+strings.Repeat("a", api.MaxText-1))
	gives(t, "/*"+strings.Repeat("a", api.MaxText-4)+"*/")
	refuses(t, "/*"+strings.Repeat("a", api.MaxText-2), 0, api.ErrForm)
	refuses(t, strings.Repeat("a", api.MaxText), 0, api.ErrLong)
	refuses(t, "{"+strings.Repeat(" ", api.MaxText), 0, api.ErrLong)
	refuses(t, strings.Repeat(" ", api.MaxText-1)+"12", 0, api.ErrLong)
	refuses(t, strings.Repeat("'", 2*api.MaxText), 0, api.ErrLong)
}

// P11.1: the first error from the text's beginning on is told, with its place, and no tokens.
func TestPlaces(t *testing.T) {
	long := strings.Repeat("a", api.MaxName+1)
	bad := []struct {
		s string
		e api.Errno
	}{{"{ ", api.ErrForm}, {"01 ", api.ErrForm}, {"'a\n ", api.ErrForm}, {`'\a' `, api.ErrForm}, {"1x ", api.ErrForm}, {"0c1 ", api.ErrForm}, {"9223372036854775808 ", api.ErrOver}, {long + " ", api.ErrLong}, {"'" + long + "' ", api.ErrLong}}
	for _, ahead := range []string{"", " ", "\n\n", "ab ", "'a' ", "f(X, ", "% a\n", "/* a */", "a. b:- ", "1 ", "- ", "(", "'a'("} {
		for _, a := range bad {
			refuses(t, ahead+a.s, len(ahead), a.e)
			for _, b := range bad {
				refuses(t, ahead+a.s+b.s, len(ahead), a.e)
			}
			refuses(t, ahead+a.s+"/* ", len(ahead), a.e)
		}
		refuses(t, ahead+"/* {", len(ahead), api.ErrForm)
		refuses(t, ahead+"'{", len(ahead), api.ErrForm)
	}
}

// The chapter's words as patterns: of what stands next.
var (
	between   = regexp.MustCompile(`^(?s:[ \t\n\r]|%[^\n]*|/\*.*?\*/)`)
	aWord     = regexp.MustCompile(`^[a-z][a-zA-Z0-9_]*`)
	aVariable = regexp.MustCompile(`^[A-Z_][a-zA-Z0-9_]*`)
	aRow      = regexp.MustCompile(`^[-+*/\\^<>=~:.?@#&$]+`)
	aSolo     = regexp.MustCompile(`^[!;]`)
	aPunct    = regexp.MustCompile(`^[()\[\],|]`)
	aQuote    = regexp.MustCompile(`^'(?:[^\n'\\]|''|\\[\\n'])*'`)
	aNumber   = regexp.MustCompile(`^[0-9][a-zA-Z0-9_]*`)
	anInt     = regexp.MustCompile(`^(?:0|[1-9][0-9]*)$`)
	aComplex  = regexp.MustCompile(`^0c[0-9a-f]{32}$`)
	aStop     = regexp.MustCompile(`^(?:[ \t\n\r%]|$)`)
)

// byPatterns is what All is to tell of s.
func byPatterns(s string) ([]api.Token, int, api.Errno) {
	if len(s) > api.MaxText {
		return nil, 0, api.ErrLong
	}
	var l []api.Token
	last, behind := api.Token{}, 0
	for at := 0; at < len(s); {
		if m := between.FindString(s[at:]); m != "" {
			at += len(m)
			continue
		}
		tight := behind == at
		x, n, e := oneByPatterns(s[at:], tight && (last.Kind == api.KAtom || last.Kind == api.KQuote), tight && last.Kind == api.KAtom && last.Text == "-")
		if e == api.OK && len(x.Text) > api.MaxName {
			e = api.ErrLong
		}
		if e != api.OK {
			return nil, at, e
		}
		x.At = at
		at += n
		last, behind = x, at
		l = append(l, x)
	}
	return l, 0, api.OK
}

// oneByPatterns is the token that s begins with, and how many bytes it has.
func oneByPatterns(s string, behindName, behindMinus bool) (api.Token, int, api.Errno) {
	if strings.HasPrefix(s, "/*") {
		return api.Token{}, 0, api.ErrForm
	}
	if m := aWord.FindString(s); m != "" {
		return atom(0, m), len(m), api.OK
	}
	if m := aVariable.FindString(s); m != "" {
		return variable(0, m), len(m), api.OK
	}
	if m := aRow.FindString(s); m == "." && aStop.MatchString(s[1:]) {
		return end(0), 1, api.OK
	} else if m != "" {
		return atom(0, m), len(m), api.OK
	}
	if m := aSolo.FindString(s); m != "" {
		return atom(0, m), 1, api.OK
	}
	if m := aPunct.FindString(s); m == "(" && behindName {
		return open(0), 1, api.OK
	} else if m != "" {
		return punct(0, m), 1, api.OK
	}
	if m := aQuote.FindString(s); m != "" && !strings.HasPrefix(s[len(m):], "'") {
		return quoted(0, strings.NewReplacer("''", "'", `\\`, `\`, `\n`, "\n", `\'`, "'").Replace(m[1:len(m)-1])), len(m), api.OK
	}
	m := aNumber.FindString(s)
	if aComplex.MatchString(m) {
		re, _ := strconv.ParseUint(m[2:18], 16, 64)
		im, _ := strconv.ParseUint(m[18:], 16, 64)
		return cpx(0, re, im), len(m), api.OK
	}
	if !anInt.MatchString(m) {
		return api.Token{}, 0, api.ErrForm
	}
	n, _ := new(big.Int).SetString(m, 10)
	if behindMinus && n.Cmp(new(big.Int).Lsh(big.NewInt(1), 63)) == 0 {
		return whole(0, math.MinInt64), len(m), api.OK
	}
	if !n.IsInt64() {
		return api.Token{}, 0, api.ErrOver
	}
	return whole(0, n.Int64()), len(m), api.OK
}

// everyText does this for every text of at most so many of these parts.
func everyText(parts []string, most int, do func(s string)) {
	var grow func(s string, left int)
	grow = func(s string, left int) {
		do(s)
		for _, p := range parts {
			if left > 0 {
				grow(s+p, left-1)
			}
		}
	}
	grow("", most)
}

// agrees: All is to tell of s what the patterns tell.
func agrees(t *testing.T, s string) {
	t.Helper()
	l, at, e := byPatterns(s)
	if e != api.OK {
		refuses(t, s, at, e)
		return
	}
	gives(t, s, l...)
}

// P11.1: every short text, held against the chapter's words as patterns.
func TestAgainstPatterns(t *testing.T) {
	everyText(strings.Split(`a A _ 0 9 - . / * % ' \ n ( [ !`, " "), 4, func(s string) { agrees(t, s) })
	everyText([]string{" ", "\n", "a", "'", `\`, ".", "/", "*", "%", "("}, 5, func(s string) { agrees(t, s) })
	everyText([]string{"-", "9223372036854775808", "9223372036854775807", "0", " ", "'-'", "0c", strings.Repeat("e0", 16), "/**/", ".", "("}, 4, func(s string) { agrees(t, s) })
}

// P11.1: longer texts, put together out of parts in a row that is the same each time.
func TestAgainstPatternsLong(t *testing.T) {
	parts := []string{" ", "\n", "a", "bC_1", "X", "_", "'q'", "'''", `'\n'`, "'", `\`, "12", "0", "-", "9223372036854775808", "9223372036854775807", "0c" + strings.Repeat("0a", 16), "(", ")", "[", "]", ",", "|",
		"!", ";", "+", ":-", ".", ". ", "% a\n", "%", "/* a */", "/*", "*/", strings.Repeat("a", 199), strings.Repeat("*", 200), "é"}
	row := rand.New(rand.NewSource(11))
	for range 100000 {
		s := ""
		for range row.Intn(12) {
			s += parts[row.Intn(len(parts))]
		}
		agrees(t, s)
	}
}

// R2, R6: an answer is the caller's own, and hangs on the text alone.
func TestMemory(t *testing.T) {
	const s = "f(X, 'a b', 12)."
	first, _, _ := token.All(s)
	second, _, _ := token.All(s)
	want := slices.Clone(second)
	clear(first[:cap(first)])
	token.All("'other'(Y).")
	token.Quote("other one")
	if !slices.Equal(second, want) {
		t.Errorf("All(%q) = %v; want %v", s, second, want)
	}
	gives(t, s, want...)
}

// plainByPattern is what Plain is to tell of s.
func plainByPattern(s string) bool {
	switch {
	case s == "[]":
		return true
	case s == ".", strings.HasPrefix(s, "/*"), len(s) > api.MaxName:
		return false
	}
	return s != "" && (aWord.FindString(s) == s || aRow.FindString(s) == s || aSolo.FindString(s) == s)
}

// quoteByWords is what Quote is to tell of s.
func quoteByWords(s string) string {
	if plainByPattern(s) {
		return s
	}
	out := []byte{'\''}
	for i := range len(s) {
		switch s[i] {
		case '\\':
			out = append(out, '\\', '\\')
		case '\n':
			out = append(out, '\\', 'n')
		case '\'':
			out = append(out, '\\', '\'')
		default:
			out = append(out, s[i])
		}
	}
	return string(append(out, '\''))
}

// quotes: Plain and Quote of s are to be as the patterns tell, and All of Quote as P11.3 tells.
func quotes(t *testing.T, s string) {
	t.Helper()
	q := quoteByWords(s)
	if got := token.Plain(s); got != plainByPattern(s) {
		t.Errorf("Plain(%s) = %t", short(s), got)
	}
	if got := token.Quote(s); got != q {
		t.Errorf("Quote(%s) = %s; want %s", short(s), short(got), short(q))
	}
	switch {
	case s == "[]":
		gives(t, token.Quote(s), punct(0, "["), punct(1, "]"))
	case len(s) > api.MaxName:
		refuses(t, token.Quote(s), 0, api.ErrLong)
	case plainByPattern(s):
		gives(t, token.Quote(s), atom(0, s))
		gives(t, token.Quote(s)+" ", atom(0, s))
	default:
		gives(t, token.Quote(s), quoted(0, s))
		gives(t, token.Quote(s)+" ", quoted(0, s))
	}
}

// P11.2: what needs no quotes.
func TestPlain(t *testing.T) {
	for _, s := range []string{"[]", "a", "z", "aB_9", "a_", "a1", "+", "-", "*", `\`, "=..", "..", ".+", "+.", "+/*", "*/", "//", "/", "!", ";", ":-", signs, small + great + digits + "_", strings.Repeat("a", api.MaxName), strings.Repeat(".", api.MaxName)} {
		if !token.Plain(s) || token.Quote(s) != s {
			t.Errorf("Plain(%q) = %t, Quote %q", s, token.Plain(s), token.Quote(s))
		}
	}
	for _, s := range []string{"", " ", "A", "_", "_a", "1", "12", "-1", "0c" + strings.Repeat("0", 32), "a b", " a", "a ", "a\n", "ab+", "+a", "!!", "!;", "a!", ".", ". ", "a.", "a%", "%", "%a", "/*", "/**/", "/**/a", "a/**/", "/*+", "+ ", "a(", "(", ")", "[", "]", "[ ]", "[](", "[]a", "a[]", ",", "|", "'", "'a'", "''", `a\`, `\a`, "\n", "{}", `"`, "é", "aé", "\x00", "\xff", strings.Repeat("a", api.MaxName+1), strings.Repeat("+", api.MaxName+1), strings.Repeat("a", api.MaxText), strings.Repeat("a", api.MaxText+1), strings.Repeat(" ", api.MaxText-1) + "a"} {
		if token.Plain(s) {
			t.Errorf("Plain(%s)", short(s))
		}
	}
}

// P11.2: names as texts, spelt out.
func TestQuote(t *testing.T) {
	for s, want := range map[string]string{
		"": "''", "a": "a", "A": "'A'", "a b": "'a b'", "[]": "[]", ".": "'.'", ",": "','", "|": "'|'", "!": "!", "+": "+", "/*": "'/*'", "1": "'1'",
		"'": `'\''`, "''": `'\'\''`, `\`: `\`, `\\`: `\\`, `a\`: `'a\\'`, "\n": `'\n'`, `\n`: `'\\n'`, "it's": `'it\'s'`, "a\nb": `'a\nb'`, "\t\r": "'\t\r'", "\x00": "'\x00'", "\xff": "'\xff'", "é": "'é'",
		`'\` + "\n": `'\'\\\n'`, "'a'": `'\'a\''`, "{}": "'{}'", "%": "'%'",
	} {
		if got := token.Quote(s); got != want {
			t.Errorf("Quote(%q) = %q; want %q", s, got, want)
		}
	}
}

// P11.2, P11.3: of every text of at most two bytes, and of every short one of those that turn something.
func TestQuoteAndBack(t *testing.T) {
	quotes(t, "")
	quotes(t, "[]")
	for n := range 256 {
		quotes(t, string([]byte{byte(n)}))
		for m := range 256 {
			quotes(t, string([]byte{byte(n), byte(m)}))
		}
		for _, many := range []int{3, api.MaxName, api.MaxName + 1} {
			quotes(t, strings.Repeat(string([]byte{byte(n)}), many))
		}
	}
	everyText([]string{"a", "Z", "0", "'", `\`, "\n", "n", ".", "/", "*", " ", "[", "]"}, 4, func(s string) { quotes(t, s) })
	for _, s := range []string{"a b", "/**/", strings.Repeat("'", api.MaxText), strings.Repeat("a", api.MaxText-1), strings.Repeat("a", api.MaxText), strings.Repeat("a", 2*api.MaxText)} {
		quotes(t, s)
	}
}

package ipat

import (
	"math/rand/v2"
	"regexp"
	"slices"
	"strconv"
	"strings"
	"testing"

	"dragoman/api"
	"dragoman/pat"
	"dragoman/pattest"
)

// P6.1: what a text says.
func TestParse(t *testing.T) {
	for s, want := range map[string]api.Pat{
		"":                          amid(cat()),
		"^":                         cat(cat(), anything()),
		"$":                         cat(anything(), cat()),
		"^$":                        cat(),
		"^7$":                       num(7),
		"^7":                        cat(num(7), anything()),
		"7$":                        cat(anything(), num(7)),
		"7":                         amid(num(7)),
		"1|2":                       amid(alt(num(1), num(2))),
		"1_2":                       amid(cat(num(1), num(2))),
		"^1|2":                      cat(alt(num(1), num(2)), anything()),
		"^0$":                       num(0),
		"^10$":                      num(10),
		"^4294967295$":              num(4294967295),
		"^[5-9]$":                   one(5, 9),
		"^[5-5]$":                   num(5),
		"^[0-0]$":                   num(0),
		"^[0-4294967295]$":          one(0, last),
		"^[4294967295-4294967295]$": num(last),
		"^[9-10]$":                  one(9, 10),
		"^.$":                       one(0, last),
		"^!$":                       alt(),
		"^(7)$":                     num(7),
		"^((0))$":                   num(0),
		"^()$":                      cat(),
		"^(())$":                    cat(),
		"()":                        amid(cat()),
		"^()_()$":                   cat(cat(), cat()),
		"^()*$":                     starOf(cat()),
		"^1*$":                      starOf(num(1)),
		"^1+$":                      plusOf(num(1)),
		"^1?$":                      maybeOf(num(1)),
		"^1*?$":                     maybeOf(starOf(num(1))),
		"^1?*$":                     starOf(maybeOf(num(1))),
		"^1+*$":                     starOf(plusOf(num(1))),
		"^1*+$":                     plusOf(starOf(num(1))),
		"^1++$":                     plusOf(plusOf(num(1))),
		"^1+?$":                     maybeOf(plusOf(num(1))),
		"^1?+$":                     plusOf(maybeOf(num(1))),
		"^1**$":                     starOf(starOf(num(1))),
		"^1??$":                     maybeOf(maybeOf(num(1))),
		"^.+$":                      plusOf(one(0, last)),
		"^[1-2]?$":                  maybeOf(one(1, 2)),
		"^(1_2)*$":                  starOf(cat(num(1), num(2))),
		"^1_2*$":                    cat(num(1), starOf(num(2))),
		"^(1|2)+$":                  plusOf(alt(num(1), num(2))),
		"^1|2+$":                    alt(num(1), plusOf(num(2))),
		"^1_2_3$":                   cat(num(1), num(2), num(3)),
		"^1_(2_3)$":                 cat(num(1), cat(num(2), num(3))),
		"^(1_2)_3$":                 cat(cat(num(1), num(2)), num(3)),
		"^1|2|3$":                   alt(num(1), num(2), num(3)),
		"^1|(2|3)$":                 alt(num(1), alt(num(2), num(3))),
		"^(1|2)|3$":                 alt(alt(num(1), num(2)), num(3)),
		"^1_2|3$":                   alt(cat(num(1), num(2)), num(3)),
		"^1|2_3$":                   alt(num(1), cat(num(2), num(3))),
		"^1_(2|3)_4$":               cat(num(1), alt(num(2), num(3)), num(4)),
		"^|$":                       alt(cat(), cat()),
		"^||$":                      alt(cat(), cat(), cat()),
		"^1|$":                      alt(num(1), cat()),
		"^|1$":                      alt(cat(), num(1)),
		"^(|1)$":                    alt(cat(), num(1)),
		"^!|$":                      alt(alt(), cat()),
		"^!_.$":                     cat(alt(), one(0, last)),
		"^65000_[64512-65534]*$":    cat(num(65000), starOf(one(64512, 65534))),
	} {
		if p, e := Parse(s); e != api.OK || !same(p, want) {
			t.Errorf("Parse(%q): %v %d, want %v", s, p, e, want)
		}
	}
}

// P6.1: what isn't of the grammar.
func TestParseForm(t *testing.T) {
	for _, s := range []string{
		"07", "00", "000", "01", "[05-6]", "[5-06]", "[00-0]", "0_00", "-1", "+1", "1-2", "5-",
		"1__2", "_", "_1", "1_", "1_|2", "1|_2", "(1_)", "(_1)", "1_$", "^_1", "1_)",
		"[", "]", "[]", "[5", "[5]", "[5-", "[5-]", "[-5]", "[-]", "[5-6", "5-6]", "[5--6]", "[5-6-7]", "[5_6]", "[5|6]", "[.-6]", "[(5)-6]", "[[5-6]]", "[5-6]]", "[5*-6]",
		"(", ")", "((", "))", ")(", "(1", "1)", "((1)", "(1))", "(1]", "[1-2)", "1(2)", "(1)2", "(1)(2)", "1()", "()1",
		"*", "+", "?", "|*", "_*", "(*1)", "^*", "1|*", "1_*", "*1", "1*2", "1?2", "1+(2)",
		"^^", "$$", "^^1", "1$$", "1^", "$1", "$^", "^$^", "^$$", "^$1", "1^2", "1$2", "(^1)", "(1$)", "(^1$)", "1|^2", "1$|2", "1$*", "^*1",
		"..", "!!", ".!", "1.", ".1", "1!", ".[1-2]", "[1-2].", "[1-2][3-4]", "1[2-3]",
		"a", "A", "1a", "a1", "1 ", " 1", " ", "1 2", "1_ 2", "[5 -6]", "^ $", "1\t", "1\n", "\n", "\x00", "1\x00", "\xff", "\xc3\xa9", "1é", "ー", "１", "٣", "1,2", "1.5", "1e3", "0x1", "1{2}", "1{1,2}", "\\1", "1/2", "1:2", "'1'", "\"\"",
	} {
		if p, e := Parse(s); e != api.ErrForm || !same(p, api.Pat{}) {
			t.Errorf("Parse(%q): %v %d", s, p, e)
		}
	}
}

// P6.1: a byte that no text of the grammar has is refused wherever it stands.
func TestParseBytes(t *testing.T) {
	known := "0123456789[]-.!()*+?_|^$"
	text := "^(1|[2-3])*_.$"
	for b := range 256 {
		if strings.IndexByte(known, byte(b)) >= 0 {
			continue
		}
		for i := range len(text) + 1 {
			s := text[:i] + string([]byte{byte(b)}) + text[i:]
			if p, e := Parse(s); e != api.ErrForm || !same(p, api.Pat{}) {
				t.Errorf("Parse(%q): %v %d", s, p, e)
			}
		}
	}
}

// checkError holds the error of a text against the grammar's own words.
func checkError(t *testing.T, s string) {
	p, e := Parse(s)
	want := errorByWords(s)
	if e != want || e != api.OK && !same(p, api.Pat{}) || e == api.OK && !pat.Right(p) {
		t.Fatalf("Parse(%q): %v %d, want %d", s, p, e, want)
	}
}

// P6.1: all short texts by the grammar's words.
func TestParseAllTexts(t *testing.T) {
	for _, x := range []struct {
		signs string
		most  int
	}{
		{"019[]-.!()*+?_|^$ ", 4},
		{"12[]-", 6},
		{"1()|_*", 6},
		{"0^$|(", 6},
	} {
		for _, s := range pattest.Texts(x.most, x.signs) {
			checkError(t, s)
		}
	}
}

// P6.1: texts of the grammar with something changed, by the grammar's words.
func TestParseChanged(t *testing.T) {
	chance := rand.New(rand.NewPCG(63, 64))
	signs := "0123456789[]-.!()*+?_|^$ a"
	for range 20000 {
		s := drawnText(chance, 2).text
		for range 1 + chance.IntN(2) {
			i := chance.IntN(len(s) + 1)
			j := min(i+chance.IntN(2), len(s))
			k := chance.IntN(len(signs))
			s = s[:i] + signs[k:k+chance.IntN(2)] + s[j:]
		}
		if _, e := Parse(s); e == api.ErrFull {
			continue // whether it is, the words that are asked here don't say
		}
		checkError(t, s)
	}
}

// P6.1: texts of the grammar by chance: the pattern is the one that they say, if that is right.
func TestParseDrawn(t *testing.T) {
	chance := rand.New(rand.NewPCG(65, 66))
	full := 0
	for range 20000 {
		x := drawnText(chance, 1+chance.IntN(3))
		p, e := Parse(x.text)
		if !pat.Right(x.p) || len(x.text) > 2000 {
			full++
			if e != api.ErrFull || !same(p, api.Pat{}) {
				t.Fatalf("Parse(%q): %v %d", x.text, p, e)
			}
			continue
		}
		if e != api.OK || !same(p, x.p) {
			t.Fatalf("Parse(%q): %v %d, want %v", x.text, p, e, x.p)
		}
	}
	if full < 20 || full > 10000 {
		t.Errorf("%d of 20000 are full", full)
	}
}

// P6.1: a text takes the paths that it is meant to take, held against the library's expressions.
func TestParseTakes(t *testing.T) {
	chance := rand.New(rand.NewPCG(67, 68))
	paths := shortPaths(3, 0, 3, 5, 6, 9)
	for range 1000 {
		x := drawnText(chance, 2)
		p, e := Parse(x.text)
		if e != api.OK {
			continue
		}
		means := regexp.MustCompile(x.expression)
		for _, l := range paths {
			if got := pat.Match(p, l); got != means.MatchString(pattest.Digits(l)) {
				t.Fatalf("%q at %v: %v", x.text, l, got)
			}
		}
	}
}

// P6.1: the document's examples of what a text takes.
func TestParseExamples(t *testing.T) {
	for _, x := range []struct {
		s    string
		l    []uint32
		want bool
	}{
		{"^65000_[64512-65534]*$", []uint32{65000}, true},
		{"^65000_[64512-65534]*$", []uint32{65000, 64600, 65534}, true},
		{"^65000_[64512-65534]*$", []uint32{65000, 65535}, false},
		{"^65000_[64512-65534]*$", []uint32{64600}, false},
		{"^65000_[64512-65534]*$", nil, false},
		{"7", []uint32{7}, true},
		{"7", []uint32{1, 7, 2}, true},
		{"7", []uint32{1, 77, 2}, false},
		{"7", nil, false},
		{"^$", nil, true},
		{"^$", []uint32{0}, false},
		{"^1|2$", []uint32{1}, true},
		{"^1|2$", []uint32{2}, true},
		{"^1|2$", []uint32{1, 2}, false},
		{"^1|2$", []uint32{1, 5}, false},
		{"^1|2$", []uint32{5, 2}, false},
		{"", nil, true},
		{"", []uint32{1, 2}, true},
		{"!", nil, false},
		{"!", []uint32{1}, false},
	} {
		p, e := Parse(x.s)
		if got := pat.Match(p, x.l); e != api.OK || got != x.want {
			t.Errorf("%q at %v: %v %d", x.s, x.l, got, e)
		}
	}
}

// P6.1: numbers outside, and an N above its M.
func TestParseRange(t *testing.T) {
	nines := strings.Repeat("9", 1990)
	for s, want := range map[string]api.Errno{
		"4294967295":                    api.OK,
		"4294967296":                    api.ErrRange,
		"4294967300":                    api.ErrRange,
		"9999999999":                    api.ErrRange,
		"8589934592":                    api.ErrRange,
		"18446744073709551615":          api.ErrRange,
		"18446744073709551616":          api.ErrRange,
		"18446744073709551623":          api.ErrRange,
		"36893488147419103239":          api.ErrRange,
		"1" + nines:                     api.ErrRange,
		nines:                           api.ErrRange,
		"1" + strings.Repeat("0", 1990): api.ErrRange,
		"[5-4]":                         api.ErrRange,
		"[1-0]":                         api.ErrRange,
		"[4294967295-0]":                api.ErrRange,
		"[10-9]":                        api.ErrRange,
		"[5-4294967296]":                api.ErrRange,
		"[4294967296-5]":                api.ErrRange,
		"[4294967296-4294967296]":       api.ErrRange,
		"[4294967296-4294967297]":       api.ErrRange,
		"[18446744073709551617-2]":      api.ErrRange,
		"[1-18446744073709551618]":      api.ErrRange,
		"[4294967295-4294967295]":       api.OK,
		"[4294967294-4294967295]":       api.OK,
		"[5-4]_1":                       api.ErrRange,
		"1_[5-4]":                       api.ErrRange,
		"^(1|(4294967296)*)?$":          api.ErrRange,
		"1|2|[3-2]":                     api.ErrRange,
		"[3-2]|1":                       api.ErrRange,
		"[3-2]+":                        api.ErrRange,
		"4294967296_4294967295_1-":      api.ErrForm,
		"0" + nines:                     api.ErrForm,
		strings.Repeat("0", 1990):       api.ErrForm,
	} {
		if p, e := Parse(s); e != want || e != api.OK && !same(p, api.Pat{}) {
			t.Errorf("Parse(%.40q): %v %d, want %d", s, p, e, want)
		}
	}
}

// row is a sign n times with another one between.
func row(n int, sign, between string) string {
	return strings.Join(slices.Repeat([]string{sign}, n), between)
}

// P6.1: a text of so many bytes, and of more.
func TestParseBytesFull(t *testing.T) {
	for i, x := range []struct {
		s    string
		want api.Errno
	}{
		{strings.Repeat("a", 2000), api.ErrForm},
		{strings.Repeat("a", 2001), api.ErrFull},
		{strings.Repeat("1", 2000), api.ErrRange},
		{strings.Repeat("1", 2001), api.ErrFull},
		{"^" + strings.Repeat("(", 999) + "1" + strings.Repeat(")", 999), api.OK},
		{"^" + strings.Repeat("(", 999) + "1" + strings.Repeat(")", 999) + "$", api.ErrFull},
		{"^" + strings.Repeat("(", 999) + strings.Repeat(")", 999) + "$", api.OK},
		{"^" + strings.Repeat("(", 999) + strings.Repeat(")", 998) + "$", api.ErrForm},
		{strings.Repeat("(", 2000), api.ErrForm},
		{strings.Repeat("(", 2001), api.ErrFull},
		{strings.Repeat("1", 100000), api.ErrFull},
		{strings.Repeat("\x00", 1<<20), api.ErrFull},
	} {
		if p, e := Parse(x.s); e != x.want || e != api.OK && !same(p, api.Pat{}) {
			t.Errorf("%d: %d, want %d", i, e, x.want)
		}
	}
}

// P6.1: what a text says may be as large as a right pattern, and no larger.
func TestParseFull(t *testing.T) {
	for i, x := range []struct {
		s    string
		want api.Errno
	}{
		{"^" + row(199, "1", "_") + "$", api.OK},
		{"^" + row(200, "1", "_") + "$", api.ErrFull},
		{row(194, "1", "_"), api.OK},
		{row(195, "1", "_"), api.ErrFull},
		{"^" + row(196, "1", "_"), api.OK},
		{"^" + row(197, "1", "_"), api.ErrFull},
		{row(196, "1", "_") + "$", api.OK},
		{row(197, "1", "_") + "$", api.ErrFull},
		{"^" + row(199, "!", "|") + "$", api.OK},
		{"^" + row(200, "!", "|") + "$", api.ErrFull},
		{"^" + strings.Repeat("|", 198) + "$", api.OK},
		{"^" + strings.Repeat("|", 199) + "$", api.ErrFull},
		{"^" + row(99, "(1)*", "_") + "$", api.OK},
		{"^" + row(100, "(1)*", "_") + "$", api.ErrFull},
		{"^" + row(66, "1?", "|") + "$", api.OK},
		{"^" + row(67, "1?", "|") + "$", api.ErrFull},
		{"^" + row(49, ".+", "_") + "$", api.OK},
		{"^" + row(50, ".+", "_") + "$", api.ErrFull},
		{"^1" + strings.Repeat("*", 39) + "$", api.OK},
		{"^1" + strings.Repeat("*", 40) + "$", api.ErrFull},
		{"^1" + strings.Repeat("*", 38), api.OK},
		{"^1" + strings.Repeat("*", 39), api.ErrFull},
		{"1" + strings.Repeat("*", 38), api.OK},
		{"1" + strings.Repeat("*", 39), api.ErrFull},
		{"^1" + strings.Repeat("?", 39) + "$", api.OK},
		{"^1" + strings.Repeat("?", 40) + "$", api.ErrFull},
		{"^1++++++$", api.OK},
		{"^1+++++++$", api.ErrFull},
		{"1++++++", api.OK},
		{"1" + strings.Repeat("+", 9), api.ErrFull},
		{"^(1_1)+++++$", api.OK},
		{"^(1_1)++++++$", api.ErrFull},
		{"^1" + strings.Repeat("*", 38) + "+$", api.ErrFull},
		{"^1" + strings.Repeat("*", 37) + "+$", api.OK},
		{"^(" + row(200, "1", "_") + ")|1$", api.ErrFull},
		{"^1_(" + row(200, "1", "_") + ")$", api.ErrFull},
		{"^(" + row(198, "1", "_") + ")*$", api.OK},
		{"^(" + row(199, "1", "_") + ")*$", api.ErrFull},
		{"^(" + row(199, "1", "_") + ")$", api.OK},
	} {
		p, e := Parse(x.s)
		if e != x.want || e != api.OK && !same(p, api.Pat{}) || e == api.OK && !pat.Right(p) {
			t.Errorf("%d: %.40q: %d, want %d", i, x.s, e, x.want)
		}
	}
}

// P6.1: the errors in their order.
func TestParseErrorsInOrder(t *testing.T) {
	full := "1+++++++++"
	for s, want := range map[string]api.Errno{
		full:                                     api.ErrFull,
		full + "_1":                              api.ErrFull,
		full + "|":                               api.ErrFull,
		"(" + full + ")*":                        api.ErrFull,
		full + "a":                               api.ErrForm,
		full + "_":                               api.ErrForm,
		full + ")":                               api.ErrForm,
		"(" + full:                               api.ErrForm,
		full + "$$":                              api.ErrForm,
		full + "_[5-4]":                          api.ErrRange,
		full + "|4294967296":                     api.ErrRange,
		"[5-4]_" + full:                          api.ErrRange,
		"4294967296" + full[1:]:                  api.ErrRange,
		"[5-4]a":                                 api.ErrForm,
		"a[5-4]":                                 api.ErrForm,
		"4294967296_":                            api.ErrForm,
		"[5-4]|07":                               api.ErrForm,
		full + "_[5-4]_07":                       api.ErrForm,
		full + "[5-4]":                           api.ErrForm,
		"^" + row(200, "1", "_") + "|*":          api.ErrForm,
		"^" + row(200, "1", "_") + "|4294967296": api.ErrRange,
		strings.Repeat("a", 1990) + "[5-4]" + full: api.ErrFull,
		strings.Repeat("[5-4]_", 333) + "0":        api.ErrRange,
		strings.Repeat("[5-4]_", 333) + "0*":       api.ErrRange,
		strings.Repeat("[5-4]_", 333) + "0**":      api.ErrFull,
		strings.Repeat("[5-4]_", 333) + "00":       api.ErrForm,
	} {
		if p, e := Parse(s); e != want || !same(p, api.Pat{}) {
			t.Errorf("Parse(%.60q): %v %d, want %d", s, p, e, want)
		}
	}
}

// P1: Parse ends soon at the longest texts, whatever they would say.
func TestParseEnds(t *testing.T) {
	for _, sign := range []string{"(", ")", "()", "|", "_", "1", "0", "1_", "1|", "(|", "|(", "1+_", "1++++++_", "1+", "1*_", "(1+)", "[", "[1-2]_", "*", "^", "$", "^$", ".", "!_", "!|"} {
		for _, ahead := range []string{"", "1", "(1)", "^", "(1_2|3)"} {
			s := ahead + strings.Repeat(sign, 2000)
			if p, e := Parse(s[:2000]); e == api.OK && !pat.Right(p) || e != api.OK && !same(p, api.Pat{}) {
				t.Errorf("Parse(%.20q): %d", s, e)
			}
		}
	}
	for _, sign := range []string{"+", "*", "?", "+*", "*+", "+?", "?+*"} {
		for _, x := range []string{"1", "^1", ".", "()", "(1_2|3)", "!"} {
			s := x + strings.Repeat(sign, 2000)
			if p, e := Parse(s[:2000]); e != api.ErrFull || !same(p, api.Pat{}) {
				t.Errorf("Parse(%.20q): %d", s, e)
			}
		}
	}
	within := strings.Repeat("(", 990) + "1" + strings.Repeat(")+", 330) + strings.Repeat(")", 660)
	if _, e := Parse(within[:1991]); e != api.ErrForm {
		t.Error(e)
	}
	if _, e := Parse(strings.Repeat("(", 660) + "1" + strings.Repeat(")+", 660)); e != api.ErrFull {
		t.Error(e)
	}
}

// P6.2: the texts of patterns.
func TestPrint(t *testing.T) {
	two, three := alt(num(1), num(2)), cat(num(1), num(2), num(3))
	for _, x := range []struct {
		p    api.Pat
		want string
	}{
		{cat(), "^$"},
		{alt(), "^!$"},
		{alt(num(1), cat()), "^1|$"},
		{alt(cat(), num(1)), "^|1$"},
		{alt(cat(), cat()), "^|$"},
		{alt(alt(), alt()), "^!|!$"},
		{num(0), "^0$"},
		{num(last), "^4294967295$"},
		{one(0, last), "^.$"},
		{starOf(one(0, last)), "^.*$"},
		{one(), "^!$"},
		{one(5, 4), "^!$"},
		{one(5, 4, 9, 8), "^!$"},
		{one(5, 9), "^[5-9]$"},
		{one(0, last-1), "^[0-4294967294]$"},
		{one(1, last), "^[1-4294967295]$"},
		{one(1, last, 0, 0), "^.$"},
		{one(0, 5, 3, last), "^.$"},
		{one(3, 4, 1, 2), "^[1-4]$"},
		{one(3, 3, 4, 4), "^[3-4]$"},
		{one(7, 7, 7, 7, 6, 5), "^7$"},
		{one(9, 12, 3, 3, 4, 4, 7, 7), "^([3-4]|7|[9-12])$"},
		{one(1, 1, 3, 3), "^(1|3)$"},
		{starOf(one(1, 1, 3, 3)), "^(1|3)*$"},
		{alt(one(1, 1, 3, 3), num(5)), "^(1|3)|5$"},
		{cat(one(1, 1, 3, 3), num(5)), "^(1|3)_5$"},
		{cat(one(), one(5, 6)), "^!_[5-6]$"},
		{starOf(one()), "^!*$"},
		{alt(one(), num(1)), "^!|1$"},
		{starOf(cat()), "^()*$"},
		{starOf(alt()), "^!*$"},
		{starOf(num(1)), "^1*$"},
		{starOf(starOf(num(1))), "^1**$"},
		{starOf(starOf(starOf(cat()))), "^()***$"},
		{starOf(two), "^(1|2)*$"},
		{starOf(three), "^(1_2_3)*$"},
		{starOf(starOf(two)), "^(1|2)**$"},
		{three, "^1_2_3$"},
		{two, "^1|2$"},
		{cat(cat(), cat()), "^()_()$"},
		{cat(num(1), cat()), "^1_()$"},
		{cat(alt(), num(1)), "^!_1$"},
		{cat(three, num(4)), "^(1_2_3)_4$"},
		{cat(two, num(4)), "^(1|2)_4$"},
		{cat(starOf(num(1)), starOf(two)), "^1*_(1|2)*$"},
		{alt(three, num(4)), "^1_2_3|4$"},
		{alt(two, num(4)), "^(1|2)|4$"},
		{alt(num(4), two), "^4|(1|2)$"},
		{alt(starOf(two), cat()), "^(1|2)*|$"},
		{alt(cat(two, three), two), "^(1|2)_(1_2_3)|(1|2)$"},
		{cat(alt(three, two), num(4)), "^(1_2_3|(1|2))_4$"},
		{cat(num(5)), "^5$"},
		{alt(num(5)), "^5$"},
		{cat(alt(cat(num(5)))), "^5$"},
		{cat(cat()), "^$"},
		{cat(alt()), "^!$"},
		{alt(cat()), "^$"},
		{alt(alt(cat(cat()))), "^$"},
		{starOf(cat(cat())), "^()*$"},
		{starOf(alt(cat())), "^()*$"},
		{starOf(alt(two)), "^(1|2)*$"},
		{starOf(cat(two)), "^(1|2)*$"},
		{starOf(alt(three)), "^(1_2_3)*$"},
		{starOf(cat(starOf(num(1)))), "^1**$"},
		{cat(two), "^1|2$"},
		{alt(three), "^1_2_3$"},
		{alt(alt(two), num(4)), "^(1|2)|4$"},
		{alt(cat(two), num(4)), "^(1|2)|4$"},
		{alt(cat(three), num(4)), "^1_2_3|4$"},
		{alt(alt(cat()), num(4)), "^|4$"},
		{cat(alt(two), num(4)), "^(1|2)_4$"},
		{cat(alt(three), num(4)), "^(1_2_3)_4$"},
		{cat(alt(cat()), num(4)), "^()_4$"},
		{cat(cat(num(3)), num(4)), "^3_4$"},
		{alt(alt(num(3)), num(4)), "^3|4$"},
		{tower(40), "^1" + strings.Repeat("*", 39) + "$"},
	} {
		if s, e := Print(x.p); s != x.want || e != api.OK {
			t.Errorf("Print(%v): %q %d, want %q", x.p, s, e, x.want)
		}
	}
}

// P6.2: the texts of patterns by the document's words.
func TestPrintByWords(t *testing.T) {
	for _, p := range patterns(5000) {
		want := "^" + pattest.Printed(p, pattest.Signs{Between: "_", Open: "[", Close: "]"}) + "$"
		if s, e := Print(p); s != want || e != api.OK {
			t.Fatalf("Print(%v): %q %d, want %q", p, s, e, want)
		}
	}
}

// P6.2: a pattern that isn't right has no text.
func TestPrintForm(t *testing.T) {
	for i, p := range wrongPatterns() {
		if s, e := Print(p); s != "" || e != api.ErrForm {
			t.Errorf("%d: %q %d", i, s, e)
		}
	}
}

// wideOne is a One of n numbers, of which no two follow one another.
func wideOne(n int) api.Pat {
	out := api.Pat{Kind: api.One}
	for i := range n {
		out.Set = append(out.Set, api.Span{Lo: uint32(2 * i), Hi: uint32(2 * i)})
	}
	return out
}

// P6.2, P6.3: a text may be longer than Parse reads, and say more than may be.
func TestPrintLarge(t *testing.T) {
	var numbers []string
	for i := range 256 {
		numbers = append(numbers, strconv.Itoa(2*i))
	}
	wide := "(" + strings.Join(numbers, "|") + ")"
	if s, e := Print(wideOne(256)); s != "^"+wide+"$" || e != api.OK {
		t.Error(s, e)
	}
	if s, e := Print(cat(times(199, wideOne(256))...)); s != "^"+row(199, wide, "_")+"$" || e != api.OK {
		t.Error(len(s), e)
	}
	long := cat(times(199, num(last))...)
	s, e := Print(long)
	if s != "^"+row(199, "4294967295", "_")+"$" || e != api.OK {
		t.Error(s, e)
	}
	if _, e := Parse(s); e != api.ErrFull {
		t.Error(e)
	}
	for n, want := range map[int]api.Errno{199: api.OK, 200: api.ErrFull} {
		s, _ := Print(wideOne(n))
		if p, e := Parse(s); e != want || e == api.OK && !pat.Match(p, []uint32{396}) {
			t.Error(n, p, e)
		}
	}
}

// P6.3: what is printed is parsed as a pattern that takes the same paths.
func TestBack(t *testing.T) {
	paths := shortPaths(3, 0, 1, 2, 4, last)
	for _, p := range patterns(1500) {
		s, _ := Print(p)
		back, e := Parse(s)
		if e != api.OK {
			t.Fatalf("Parse(%q): %d", s, e)
		}
		for _, l := range paths {
			if pat.Match(p, l) != pat.Match(back, l) {
				t.Fatalf("%v is printed as %q, which takes others: %v", p, s, l)
			}
		}
	}
}

// P6.3: what a text says is printed, and parsed, as one that takes the same paths.
func TestBackOfTexts(t *testing.T) {
	chance := rand.New(rand.NewPCG(69, 70))
	paths := shortPaths(3, 0, 3, 5, 9)
	for range 1000 {
		x := drawnText(chance, 2)
		p, e := Parse(x.text)
		if e != api.OK {
			continue
		}
		s, e := Print(p)
		back, f := Parse(s)
		if e != api.OK || f != api.OK {
			t.Fatalf("%q, printed %q: %d %d", x.text, s, e, f)
		}
		for _, l := range paths {
			if pat.Match(p, l) != pat.Match(back, l) {
				t.Fatalf("%q is printed as %q, which takes others: %v", x.text, s, l)
			}
		}
	}
}

// Rule 4: what is handed in stays as it was, its spare room too.
func TestArgumentsStay(t *testing.T) {
	for _, p := range append(patterns(200), one(9, 12, 3, 3, 4, 4), api.Pat{Kind: 7}) {
		if !pattest.Stays(p, func(given api.Pat) { Print(given) }) {
			t.Fatal(p)
		}
	}
}

// Rule 4: no two lists of what Parse answers share memory, nor do two answers.
func TestParseIsNew(t *testing.T) {
	for _, s := range []string{"", ".", "1+", "^1+$", "^.+$", "^(1_2)++$", "^(1|.)+?*$", "^!+$", "^([1-2]*)+_.+$", "^1?+|.?$", "._.|.", "^1_2_3_4_5$"} {
		if !pattest.New(func() api.Pat { p, _ := Parse(s); return p }) {
			t.Errorf("%q", s)
		}
	}
}

// Rule 3: nil and empty lists are one.
func TestEmptyLists(t *testing.T) {
	hollow := api.Pat{Kind: api.Cat, Set: []api.Span{}, Subs: []api.Pat{}}
	none := api.Pat{Kind: api.One, Set: []api.Span{}, Subs: []api.Pat{}}
	if s, e := Print(alt(hollow, none)); s != "^|!$" || e != api.OK {
		t.Error(s, e)
	}
}

package jpat

import (
	"math/rand/v2"
	"regexp"
	"slices"
	"strconv"
	"strings"
	"testing"

	"dragoman/api"
	"dragoman/pat"
	"dragoman/pattest"
)

// P7.1: what a text says.
func TestParse(t *testing.T) {
	five := cat(num(1), num(2))
	for s, want := range map[string]api.Pat{
		"":                       cat(),
		"7":                      num(7),
		"0":                      num(0),
		"10":                     num(10),
		"12":                     num(12),
		"4294967295":             num(last),
		"5-9":                    one(5, 9),
		"5-5":                    num(5),
		"0-0":                    num(0),
		"9-10":                   one(9, 10),
		"0-4294967295":           one(0, last),
		"4294967295-4294967295":  num(last),
		".":                      one(0, last),
		"!":                      alt(),
		"(7)":                    num(7),
		"((0))":                  num(0),
		"(5-9)":                  one(5, 9),
		"()":                     cat(),
		"(())":                   cat(),
		"()()":                   cat(cat(), cat()),
		"()*":                    starOf(cat()),
		"1 2":                    cat(num(1), num(2)),
		"0 0":                    cat(num(0), num(0)),
		"1 2 3":                  cat(num(1), num(2), num(3)),
		"1 (2 3)":                cat(num(1), cat(num(2), num(3))),
		"(1 2) 3":                cat(cat(num(1), num(2)), num(3)),
		"(1)(2)3(4)":             cat(num(1), num(2), num(3), num(4)),
		"1-2 3-4":                cat(one(1, 2), one(3, 4)),
		"1 2-3 4":                cat(num(1), one(2, 3), num(4)),
		"..":                     cat(one(0, last), one(0, last)),
		".!":                     cat(one(0, last), alt()),
		"1.2":                    cat(num(1), one(0, last), num(2)),
		"1!2":                    cat(num(1), alt(), num(2)),
		"1*2":                    cat(starOf(num(1)), num(2)),
		"1{2}3":                  cat(cat(num(1), num(1)), num(3)),
		"1.(2)!":                 cat(num(1), one(0, last), num(2), alt()),
		"1|2":                    alt(num(1), num(2)),
		"1|2|3":                  alt(num(1), num(2), num(3)),
		"1|(2|3)":                alt(num(1), alt(num(2), num(3))),
		"(1|2)|3":                alt(alt(num(1), num(2)), num(3)),
		"1 2|3":                  alt(cat(num(1), num(2)), num(3)),
		"1|2 3":                  alt(num(1), cat(num(2), num(3))),
		"1(2|3)4":                cat(num(1), alt(num(2), num(3)), num(4)),
		"|":                      alt(cat(), cat()),
		"||":                     alt(cat(), cat(), cat()),
		"1|":                     alt(num(1), cat()),
		"|1":                     alt(cat(), num(1)),
		"(|1)":                   alt(cat(), num(1)),
		"!|":                     alt(alt(), cat()),
		"1*":                     starOf(num(1)),
		"1+":                     plusOf(num(1)),
		"1?":                     maybeOf(num(1)),
		"1*?":                    maybeOf(starOf(num(1))),
		"1?*":                    starOf(maybeOf(num(1))),
		"1+*":                    starOf(plusOf(num(1))),
		"1*+":                    plusOf(starOf(num(1))),
		"1++":                    plusOf(plusOf(num(1))),
		"1+?":                    maybeOf(plusOf(num(1))),
		"1**":                    starOf(starOf(num(1))),
		"1??":                    maybeOf(maybeOf(num(1))),
		".+":                     plusOf(one(0, last)),
		"1-2?":                   maybeOf(one(1, 2)),
		"1-2*3":                  cat(starOf(one(1, 2)), num(3)),
		"(1 2)*":                 starOf(five),
		"1 2*":                   cat(num(1), starOf(num(2))),
		"(1|2)+":                 plusOf(alt(num(1), num(2))),
		"1|2+":                   alt(num(1), plusOf(num(2))),
		"65000 (64512-65534)* 7": cat(num(65000), starOf(one(64512, 65534)), num(7)),
		"1{2}|.{0,1}":            alt(cat(num(1), num(1)), cat(maybeOf(one(0, last)))),
	} {
		if p, e := Parse(s); e != api.OK || !same(p, want) {
			t.Errorf("Parse(%q): %v %d, want %v", s, p, e, want)
		}
	}
}

// P7.1: how many times.
func TestParseTimes(t *testing.T) {
	x, may := num(1), maybeOf(num(1))
	for s, want := range map[string]api.Pat{
		"1{0}":         cat(),
		"1{1}":         cat(x),
		"1{2}":         cat(x, x),
		"1{3}":         cat(x, x, x),
		"1{10}":        cat(times(10, x)...),
		"1{0,}":        cat(starOf(x)),
		"1{1,}":        cat(x, starOf(x)),
		"1{2,}":        cat(x, x, starOf(x)),
		"1{0,0}":       cat(),
		"1{0,1}":       cat(may),
		"1{0,2}":       cat(may, may),
		"1{1,1}":       cat(x),
		"1{1,2}":       cat(x, may),
		"1{2,4}":       cat(x, x, may, may),
		"1{9,10}":      cat(append(times(9, x), may)...),
		"1{1}{1}":      cat(cat(x)),
		"1{2}*":        starOf(cat(x, x)),
		"1*{2}":        cat(starOf(x), starOf(x)),
		"1{2}{0}":      cat(),
		"1{0}{2}":      cat(cat(), cat()),
		"1{0,1}{1,}":   cat(cat(may), starOf(cat(may))),
		"1?{1,2}":      cat(may, maybeOf(may)),
		"!{2}":         cat(alt(), alt()),
		".{1}":         cat(one(0, last)),
		"2-3{2}":       cat(one(2, 3), one(2, 3)),
		"(1|){1,1}":    cat(alt(x, cat())),
		"(1{2}){2}":    cat(cat(x, x), cat(x, x)),
		"(1 1){2}1{1}": cat(cat(cat(x, x), cat(x, x)), cat(x)),
		"(){3}":        cat(cat(), cat(), cat()),
		"0{0}|0{1,}":   alt(cat(), cat(num(0), starOf(num(0)))),
		"0{199}":       cat(times(199, num(0))...),
		"(1{199}){0}":  cat(),
	} {
		if p, e := Parse(s); e != api.OK || !same(p, want) {
			t.Errorf("Parse(%q): %v %d, want %v", s, p, e, want)
		}
	}
}

// P7.1: blanks may stand ahead of each sign and number, and at the end.
func TestParseBlanks(t *testing.T) {
	for s, want := range map[string]string{
		"  ":                          "",
		" 7":                          "7",
		"7 ":                          "7",
		"  7  ":                       "7",
		"1  2":                        "1 2",
		" 5 - 9 ":                     "5-9",
		"5  -9":                       "5-9",
		"5-  9":                       "5-9",
		"1 - 2 3 - 4":                 "1-2 3-4",
		" 1 | 2 ":                     "1|2",
		" | ":                         "|",
		"( )":                         "()",
		" ( 1 2 ) * ":                 "(1 2)*",
		"1 * + ?":                     "1*+?",
		"1 { 2 }":                     "1{2}",
		"1 { 2 , }":                   "1{2,}",
		"1 { 1 , 2 } 3":               "1{1,2}3",
		" . ! ":                       ".!",
		". 1 . ":                      ".1.",
		"1 (2) 3":                     "1(2)3",
		"1 {  2}{  3,  }{4  ,5  }  *": "1{2}{3,}{4,5}*",
	} {
		p, e := Parse(s)
		q, f := Parse(want)
		if e != f || !same(p, q) {
			t.Errorf("%q: %v %d, and %q: %v %d", s, p, e, want, q, f)
		}
	}
}

// P7.1: what isn't of the grammar.
func TestParseForm(t *testing.T) {
	for _, s := range []string{
		"07", "00", "000", "01", "1 07", "05-6", "5-06", "0-00", "(00)", "1{00}", "1{01}", "1{0,01}", "1{01,2}", "1{01,}",
		"-", "-1", "1-", "1 -", "- 1", "1--2", "1-2-3", "1-2 -3", "1-|2", "1-(2)", "(1)-2", "1*-2", ".-1", "1-.", "!-1", "1-!", "1-*", "1{2}-3",
		"{", "}", "{}", "{1}", "1{", "1{2", "1{2,", "1{2,3", "1}", "1{}", "1{,}", "1{,2}", "1{2,,}", "1{2,3,4}", "1{2,3,}", "1{2 3}", "1{-1}", "1{1-2}", "1{+1}", "1{.}", "1{(2)}", "1{2}}", "1{{2}}", "1{2){", "|{1}", "({1})", "1{a}", "1{2;3}",
		",", "1,2", "1,", "1{2},",
		"(", ")", "((", "))", ")(", "(1", "1)", "((1)", "(1))", "(1|", "1|)", "(1{2)", "(1{2)}",
		"*", "+", "?", " *", "|*", "(*1)", "1|*", "1|+", "*1", "?{2}", "( *)",
		"^", "$", "^1", "1$", "^1$", "^$", "(^1)", "1|^2",
		"_", "1_2", "1_", "_1", "[", "]", "[1-2]", "[1]", "1[2-3]",
		"a", "A", "1a", "a1", "1 a", "1\t2", "\t", "1\n", "\n1", "1\r", "1\v2", "1\f2", "\x00", "1\x00", "\x001", "1\x002", "\xff", "\xc2\xa0", "\u00a01", "1\u20032", "1é", "１", "٣", "1.5a", "1e3", "0x1", "\\1", "1/2", "1:2", "'1'", "\"\"", "1;", "1#", "1=2", "~1", "1&2", "1%", "@", "`1`",
	} {
		if p, e := Parse(s); e != api.ErrForm || !same(p, api.Pat{}) {
			t.Errorf("Parse(%q): %v %d", s, p, e)
		}
	}
}

// P7.1: a byte that no text of the grammar has is refused wherever it stands.
func TestParseBytes(t *testing.T) {
	known := "0123456789-.!()*+?{},| "
	text := " (1|2-3)*{4,5} . "
	for b := range 256 {
		if strings.IndexByte(known, byte(b)) >= 0 {
			continue
		}
		for i := range len(text) + 1 {
			s := text[:i] + string([]byte{byte(b)}) + text[i:]
			if p, e := Parse(s); e != api.ErrForm || !same(p, api.Pat{}) {
				t.Errorf("Parse(%q): %v %d", s, p, e)
			}
		}
	}
}

// checkError holds the error of a text against the grammar's own words.
func checkError(t *testing.T, s string) {
	p, e := Parse(s)
	want := errorByWords(s)
	if e != want || e != api.OK && !same(p, api.Pat{}) || e == api.OK && !pat.Right(p) {
		t.Fatalf("Parse(%q): %v %d, want %d", s, p, e, want)
	}
}

// P7.1: all short texts by the grammar's words.
func TestParseAllTexts(t *testing.T) {
	for signs, most := range map[string]int{
		"019-.!()*+?{},| ^": 4,
		"01{,} ":            6,
		"1()| *":            6,
		"01- |":             6,
		"1{2}( )":           5,
	} {
		for _, s := range pattest.Texts(most, signs) {
			checkError(t, s)
		}
	}
	for ahead, most := range map[string]int{"1{": 4, "1{1,": 3, "1 {0 ,": 3, "1-": 5} {
		for _, s := range pattest.Texts(most, "01{,} ") {
			checkError(t, ahead+s)
		}
	}
}

// P7.1: texts of the grammar with something changed, by the grammar's words.
func TestParseChanged(t *testing.T) {
	chance := rand.New(rand.NewPCG(73, 74))
	signs := "0123456789-.!()*+?{},| a"
	for range 20000 {
		s := drawnText(chance, 2).spaced(func() int { return max(0, chance.IntN(4)-2) })
		for range 1 + chance.IntN(2) {
			i := chance.IntN(len(s) + 1)
			j := min(i+chance.IntN(2), len(s))
			k := chance.IntN(len(signs))
			s = s[:i] + signs[k:k+chance.IntN(2)] + s[j:]
		}
		if _, e := Parse(s); e == api.ErrFull {
			continue // whether it is, the words that are asked here don't say
		}
		checkError(t, s)
	}
}

// P7.1, P7.3: texts of the grammar by chance: the pattern is the one that they say, if that is right, whatever blanks stand there.
func TestParseDrawn(t *testing.T) {
	chance := rand.New(rand.NewPCG(75, 76))
	full := 0
	for range 20000 {
		x := drawnText(chance, 1+chance.IntN(3))
		for _, s := range []string{x.text(), x.spaced(func() int { return 1 }), x.spaced(func() int { return chance.IntN(3) })} {
			p, e := Parse(s)
			if x.full || len(s) > 2000 {
				full++
				if e != api.ErrFull || !same(p, api.Pat{}) {
					t.Fatalf("Parse(%q): %v %d", s, p, e)
				}
				continue
			}
			if e != api.OK || !same(p, x.p) {
				t.Fatalf("Parse(%q): %v %d, want %v", s, p, e, x.p)
			}
		}
	}
	if full < 60 || full > 30000 {
		t.Errorf("%d of 60000 are full", full)
	}
}

// P7.3: a blank may stand between any two signs, and changes nothing; within a number it makes two of one.
func TestParseOneBlank(t *testing.T) {
	text := "(1|2-34)*{5,6}?.!+{7,}{0}|89"
	want, e := Parse(text)
	if e != api.OK {
		t.Fatal(e)
	}
	for i := range len(text) + 1 {
		within := 0 < i && i < len(text) && isNumber(text[i-1:]) && isNumber(text[i:])
		got, e := Parse(text[:i] + " " + text[i:])
		if !within && (e != api.OK || !same(got, want)) || within && same(got, want) {
			t.Errorf("a blank at %d: %v %d", i, got, e)
		}
	}
	if p, e := Parse("1 2"); e != api.OK || !same(p, cat(num(1), num(2))) {
		t.Error(p, e)
	}
}

// P7.1: a text takes the paths that it is meant to take, held against the library's expressions.
func TestParseTakes(t *testing.T) {
	chance := rand.New(rand.NewPCG(77, 78))
	paths := shortPaths(4, 0, 3, 5, 9)
	for range 600 {
		x := drawnText(chance, 2)
		p, e := Parse(x.text())
		if e != api.OK {
			continue
		}
		means := regexp.MustCompile("^(?:" + x.expression + ")$")
		for _, l := range paths {
			if got := pat.Match(p, l); got != means.MatchString(pattest.Digits(l)) {
				t.Fatalf("%q at %v: %v", x.text(), l, got)
			}
		}
	}
}

// P7.1: the document's examples of what a text takes.
func TestParseExamples(t *testing.T) {
	for _, x := range []struct {
		s    string
		l    []uint32
		want bool
	}{
		{"65000 (64512-65534)* 7", []uint32{65000, 7}, true},
		{"65000 (64512-65534)* 7", []uint32{65000, 64512, 65534, 7}, true},
		{"65000 (64512-65534)* 7", []uint32{65000, 65535, 7}, false},
		{"65000 (64512-65534)* 7", []uint32{65000}, false},
		{"65000 (64512-65534)* 7", []uint32{65000, 7, 7}, false},
		{"1{2}|.{0,1}", []uint32{1, 1}, true},
		{"1{2}|.{0,1}", []uint32{1}, true},
		{"1{2}|.{0,1}", []uint32{9}, true},
		{"1{2}|.{0,1}", nil, true},
		{"1{2}|.{0,1}", []uint32{1, 2}, false},
		{"1{2}|.{0,1}", []uint32{1, 1, 1}, false},
		{"", nil, true},
		{"", []uint32{1}, false},
		{"7", []uint32{7}, true},
		{"7", []uint32{1, 7, 2}, false},
		{"1{2,}", []uint32{1}, false},
		{"1{2,}", []uint32{1, 1}, true},
		{"1{2,}", []uint32{1, 1, 1, 1, 1}, true},
		{"1{2,3}", []uint32{1, 1, 1, 1}, false},
		{"!", nil, false},
		{"!", []uint32{1}, false},
	} {
		p, e := Parse(x.s)
		if got := pat.Match(p, x.l); e != api.OK || got != x.want {
			t.Errorf("%q at %v: %v %d", x.s, x.l, got, e)
		}
	}
}

// P7.1: numbers outside, an N above its M, and an m above its n.
func TestParseRange(t *testing.T) {
	nines := strings.Repeat("9", 1990)
	for s, want := range map[string]api.Errno{
		"4294967295":                    api.OK,
		"4294967296":                    api.ErrRange,
		"4294967300":                    api.ErrRange,
		"9999999999":                    api.ErrRange,
		"18446744073709551615":          api.ErrRange,
		"18446744073709551616":          api.ErrRange,
		"18446744073709551623":          api.ErrRange,
		"36893488147419103239":          api.ErrRange,
		nines:                           api.ErrRange,
		"1" + strings.Repeat("0", 1990): api.ErrRange,
		"5-4":                           api.ErrRange,
		"1-0":                           api.ErrRange,
		"4294967295-0":                  api.ErrRange,
		"10-9":                          api.ErrRange,
		"5-4294967296":                  api.ErrRange,
		"4294967296-5":                  api.ErrRange,
		"4294967296-4294967296":         api.ErrRange,
		"18446744073709551617-2":        api.ErrRange,
		"1-18446744073709551618":        api.ErrRange,
		"4294967294-4294967295":         api.OK,
		"5-4 1":                         api.ErrRange,
		"1 5-4":                         api.ErrRange,
		"(1|(4294967296)*)?":            api.ErrRange,
		"1|2|3-2":                       api.ErrRange,
		"3-2|1":                         api.ErrRange,
		"3-2{2}":                        api.ErrRange,
		"5-4{0}":                        api.ErrRange,
		"4294967296{0}":                 api.ErrRange,
		"1{3,2}":                        api.ErrRange,
		"1{1,0}":                        api.ErrRange,
		"1{2,2}":                        api.OK,
		"1{10,9}":                       api.ErrRange,
		"1{4294967295,0}":               api.ErrRange,
		"1{4294967295,4294967294}":      api.ErrRange,
		"1{4294967296}":                 api.ErrRange,
		"1{4294967297}":                 api.ErrRange,
		"1{4294967296,}":                api.ErrRange,
		"1{4294967296,1}":               api.ErrRange,
		"1{4294967297,1}":               api.ErrRange,
		"1{0,4294967296}":               api.ErrRange,
		"1{0,4294967297}":               api.ErrRange,
		"1{4294967296,4294967296}":      api.ErrRange,
		"1{18446744073709551617}":       api.ErrRange,
		"1{1,18446744073709551618}":     api.ErrRange,
		"1{3,2}{0}":                     api.ErrRange,
		"(1{3,2}){0}|1":                 api.ErrRange,
		"4294967296 4294967295 1-":      api.ErrForm,
		"0" + nines:                     api.ErrForm,
		"1{0" + nines + "}":             api.ErrForm,
		strings.Repeat("0", 1990):       api.ErrForm,
	} {
		if p, e := Parse(s); e != want || e != api.OK && !same(p, api.Pat{}) {
			t.Errorf("Parse(%.40q): %v %d, want %d", s, p, e, want)
		}
	}
}

// row is a sign n times with another one between.
func row(n int, sign, between string) string {
	return strings.Join(slices.Repeat([]string{sign}, n), between)
}

// within is a text in so many brackets.
func within(n int, s string) string {
	return strings.Repeat("(", n) + s + strings.Repeat(")", n)
}

// P7.1: a text of so many bytes, blanks too, and of more.
func TestParseBytesFull(t *testing.T) {
	for i, x := range []struct {
		s    string
		want api.Errno
	}{
		{strings.Repeat("a", 2000), api.ErrForm},
		{strings.Repeat("a", 2001), api.ErrFull},
		{strings.Repeat("1", 2000), api.ErrRange},
		{strings.Repeat("1", 2001), api.ErrFull},
		{strings.Repeat(" ", 2000), api.OK},
		{strings.Repeat(" ", 2001), api.ErrFull},
		{strings.Repeat(" ", 1999) + "1", api.OK},
		{strings.Repeat(" ", 2000) + "1", api.ErrFull},
		{"1" + strings.Repeat(" ", 1999), api.OK},
		{"1" + strings.Repeat(" ", 2000), api.ErrFull},
		{"1" + strings.Repeat(" ", 1998) + "2", api.OK},
		{"1" + strings.Repeat(" ", 1999) + "2", api.ErrFull},
		{within(999, "1"), api.OK},
		{within(999, "10"), api.OK},
		{within(1000, ""), api.OK},
		{within(1000, "1"), api.ErrFull},
		{within(999, "") + "(", api.ErrForm},
		{strings.Repeat("(", 2000), api.ErrForm},
		{strings.Repeat("(", 2001), api.ErrFull},
		{strings.Repeat("1", 100000), api.ErrFull},
		{strings.Repeat("\x00", 1<<20), api.ErrFull},
	} {
		if p, e := Parse(x.s); e != x.want || e != api.OK && !same(p, api.Pat{}) {
			t.Errorf("%d: %d, want %d", i, e, x.want)
		}
	}
}

// P7.1: what a text says may be as large as a right pattern, and no larger.
func TestParseFull(t *testing.T) {
	for i, x := range []struct {
		s    string
		want api.Errno
	}{
		{row(199, "1", " "), api.OK},
		{row(200, "1", " "), api.ErrFull},
		{row(199, ".", ""), api.OK},
		{row(200, ".", ""), api.ErrFull},
		{row(199, "!", "|"), api.OK},
		{row(200, "!", "|"), api.ErrFull},
		{strings.Repeat("|", 198), api.OK},
		{strings.Repeat("|", 199), api.ErrFull},
		{row(99, "1*", ""), api.OK},
		{row(100, "1*", ""), api.ErrFull},
		{row(66, "1?", "|"), api.OK},
		{row(67, "1?", "|"), api.ErrFull},
		{row(49, ".+", ""), api.OK},
		{row(50, ".+", ""), api.ErrFull},
		{"1" + strings.Repeat("*", 39), api.OK},
		{"1" + strings.Repeat("*", 40), api.ErrFull},
		{"1" + strings.Repeat("?", 39), api.OK},
		{"1" + strings.Repeat("?", 40), api.ErrFull},
		{"1" + strings.Repeat("{1}", 39), api.OK},
		{"1" + strings.Repeat("{1}", 40), api.ErrFull},
		{"1" + strings.Repeat("{0,}", 19), api.OK},
		{"1" + strings.Repeat("{0,}", 20), api.ErrFull},
		{"1" + strings.Repeat("{0,1}", 19), api.OK},
		{"1" + strings.Repeat("{0,1}", 20), api.ErrFull},
		{"1++++++", api.OK},
		{"1+++++++", api.ErrFull},
		{"(1 1)+++++", api.OK},
		{"(1 1)++++++", api.ErrFull},
		{"1{199}", api.OK},
		{"1{200}", api.ErrFull},
		{"1{4294967295}", api.ErrFull},
		{"1{197,}", api.OK},
		{"1{198,}", api.ErrFull},
		{"1{4294967295,}", api.ErrFull},
		{"1{0,66}", api.OK},
		{"1{0,67}", api.ErrFull},
		{"1{1,67}", api.OK},
		{"1{2,68}", api.ErrFull},
		{"1{0,4294967295}", api.ErrFull},
		{"1{4294967295,4294967295}", api.ErrFull},
		{"1{4294967294,4294967295}", api.ErrFull},
		{"1{199,199}", api.OK},
		{"1{200,200}", api.ErrFull},
		{"1{198} 1", api.ErrFull},
		{"1{197} 1", api.OK},
		{"1{99}|1{98}", api.OK},
		{"1{99}|1{99}", api.ErrFull},
		{"((1{9}){9}){2}", api.OK},
		{"((1{9}){9}){3}", api.ErrFull},
		{"((1{9}){9}){9}", api.ErrFull},
		{"(" + row(200, "1", " ") + ")|1", api.ErrFull},
		{"1 (" + row(200, "1", " ") + ")", api.ErrFull},
		{"(" + row(198, "1", " ") + ")*", api.OK},
		{"(" + row(199, "1", " ") + ")*", api.ErrFull},
		{"(" + row(199, "1", " ") + ")", api.OK},
		{"(" + row(198, "1", " ") + "){1}", api.OK},
		{"(" + row(199, "1", " ") + "){1}", api.ErrFull},
	} {
		p, e := Parse(x.s)
		if e != x.want || e != api.OK && !same(p, api.Pat{}) || e == api.OK && !pat.Right(p) {
			t.Errorf("%d: %.40q: %d, want %d", i, x.s, e, x.want)
		}
	}
}

// P7.1: x no times is nothing, if x is right; of one that isn't, layer 5's Times says nothing at all.
func TestParseNoTimes(t *testing.T) {
	for s, want := range map[string]api.Errno{
		"1{199}{0}":                              api.OK,
		"1{200}{0}":                              api.ErrFull,
		"(" + row(199, "1", " ") + "){0}":        api.OK,
		"(" + row(200, "1", " ") + "){0}":        api.ErrFull,
		"(" + row(200, "1", " ") + "){0,0}":      api.ErrFull,
		"1" + strings.Repeat("*", 39) + "{0}":    api.OK,
		"1" + strings.Repeat("*", 40) + "{0}":    api.ErrFull,
		"1" + strings.Repeat("?", 40) + "{0}{0}": api.ErrFull,
	} {
		if p, e := Parse(s); e != want || e == api.OK && !same(p, cat()) || e != api.OK && !same(p, api.Pat{}) {
			t.Errorf("Parse(%.20q): %v %d, want %d", s, p, e, want)
		}
	}
}

// P7.1: the errors in their order.
func TestParseErrorsInOrder(t *testing.T) {
	full := "1{200}"
	for s, want := range map[string]api.Errno{
		full + " 1":                        api.ErrFull,
		full + "|":                         api.ErrFull,
		"(" + full + ")*":                  api.ErrFull,
		full + "a":                         api.ErrForm,
		full + "-":                         api.ErrForm,
		full + ")":                         api.ErrForm,
		"(" + full:                         api.ErrForm,
		full + "{":                         api.ErrForm,
		full + "{2":                        api.ErrForm,
		full + " 5-4":                      api.ErrRange,
		full + "|4294967296":               api.ErrRange,
		full + "{3,2}":                     api.ErrRange,
		full + "{4294967296}":              api.ErrRange,
		"5-4" + full[1:]:                   api.ErrRange,
		"1{3,2}" + full:                    api.ErrRange,
		"4294967296" + full[1:]:            api.ErrRange,
		"1{3,2":                            api.ErrForm,
		"1{3,2}a":                          api.ErrForm,
		"a1{3,2}":                          api.ErrForm,
		"1{4294967296,":                    api.ErrForm,
		"5-4a":                             api.ErrForm,
		"a5-4":                             api.ErrForm,
		"5-4|07":                           api.ErrForm,
		"07|5-4":                           api.ErrForm,
		full + " 5-4 07":                   api.ErrForm,
		full + "_5-4":                      api.ErrForm,
		row(200, "1", " ") + "|*":          api.ErrForm,
		row(200, "1", " ") + "|4294967296": api.ErrRange,
		strings.Repeat("a", 1990) + "5-4" + full + "++": api.ErrFull,
		strings.Repeat("5-4 ", 499) + "0*":              api.ErrRange,
		strings.Repeat("5-4 ", 499) + "0***":            api.ErrRange,
		strings.Repeat("5-4 ", 499) + "0****":           api.ErrFull,
		strings.Repeat("5-4 ", 499) + "00":              api.ErrForm,
	} {
		if p, e := Parse(s); e != want || !same(p, api.Pat{}) {
			t.Errorf("Parse(%.60q): %v %d, want %d", s, p, e, want)
		}
	}
}

// P1: Parse ends soon at the longest texts, whatever they would say.
func TestParseEnds(t *testing.T) {
	for _, sign := range []string{"(", ")", "()", "|", " ", "1", "0", "1 ", "1|", "(|", "|(", "1+ ", "1++++++ ", "1+", "1*", "(1+)", "1-", "1-2 ", "1{", "1{2", "1{199}", "1{199} 2{1,}", "{", "}", "{9}", "{1,9}", "{0}", ",", "-", "*", "^", ".", "!"} {
		for _, ahead := range []string{"", "1", "(1)", " ", "(1 2|3)"} {
			s := ahead + strings.Repeat(sign, 2000)
			if p, e := Parse(s[:2000]); e == api.OK && !pat.Right(p) || e != api.OK && !same(p, api.Pat{}) {
				t.Errorf("Parse(%.20q): %d", s, e)
			}
		}
	}
	for _, sign := range []string{"+", "*", "?", "+*", "?+*", "{9}", "{1}", "{199}", "{1,}", "{0,9}", "{0,4294967295}", "{4294967295,}", "+{2}"} {
		for _, x := range []string{"1", ".", "()", "(1 2|3)", "!", "1-2"} {
			s := x + strings.Repeat(sign, 1900/len(sign))
			if p, e := Parse(s); e != api.ErrFull || !same(p, api.Pat{}) {
				t.Errorf("Parse(%.20q): %d", s, e)
			}
		}
	}
	if _, e := Parse(strings.Repeat("(", 660) + "1" + strings.Repeat(")+", 660)); e != api.ErrFull {
		t.Error(e)
	}
	if _, e := Parse(strings.Repeat("(", 390) + "1" + strings.Repeat("){9}", 390)); e != api.ErrFull {
		t.Error(e)
	}
}

// P7.2: the texts of patterns: nothing about the whole, no brackets about a span, blanks between items.
func TestPrint(t *testing.T) {
	two, three := alt(num(1), num(2)), cat(num(1), num(2), num(3))
	for _, x := range []struct {
		p    api.Pat
		want string
	}{
		{cat(), ""},
		{alt(), "!"},
		{alt(num(1), cat()), "1|"},
		{alt(cat(), cat()), "|"},
		{num(0), "0"},
		{num(last), "4294967295"},
		{one(0, last), "."},
		{one(1, last, 0, 0), "."},
		{one(), "!"},
		{one(5, 4), "!"},
		{one(5, 9), "5-9"},
		{one(0, last-1), "0-4294967294"},
		{one(3, 4, 1, 2), "1-4"},
		{one(7, 7, 7, 7, 6, 5), "7"},
		{one(9, 12, 3, 3, 4, 4, 7, 7), "(3-4|7|9-12)"},
		{starOf(one(1, 1, 3, 3)), "(1|3)*"},
		{alt(one(1, 1, 3, 3), num(5)), "(1|3)|5"},
		{cat(one(1, 1, 3, 3), num(5)), "(1|3) 5"},
		{cat(num(1), one(2, 3)), "1 2-3"},
		{cat(one(2, 3), num(1)), "2-3 1"},
		{cat(one(), one(5, 6)), "! 5-6"},
		{starOf(one(5, 6)), "5-6*"},
		{starOf(cat()), "()*"},
		{starOf(starOf(three)), "(1 2 3)**"},
		{cat(num(1), cat(), alt()), "1 () !"},
		{cat(three, two, num(4)), "(1 2 3) (1|2) 4"},
		{cat(starOf(num(1)), starOf(two)), "1* (1|2)*"},
		{alt(three, two, num(4)), "1 2 3|(1|2)|4"},
		{cat(alt(cat(num(5)))), "5"},
		{alt(alt(cat(cat()))), ""},
		{starOf(cat(alt(cat()))), "()*"},
		{cat(two), "1|2"},
		{alt(three), "1 2 3"},
		{alt(cat(two), alt(three), num(4)), "(1|2)|1 2 3|4"},
		{cat(alt(two), alt(cat()), cat(num(4))), "(1|2) () 4"},
		{tower(40), "1" + strings.Repeat("*", 39)},
	} {
		if s, e := Print(x.p); s != x.want || e != api.OK {
			t.Errorf("Print(%v): %q %d, want %q", x.p, s, e, x.want)
		}
	}
}

// P7.2: the texts of patterns by the document's words.
func TestPrintByWords(t *testing.T) {
	for _, p := range patterns(5000) {
		want := pattest.Printed(p, pattest.Signs{Between: " "})
		if s, e := Print(p); s != want || e != api.OK {
			t.Fatalf("Print(%v): %q %d, want %q", p, s, e, want)
		}
	}
}

// P7.2: a pattern that isn't right has no text, and that is told soon, however much stands in it.
func TestPrintForm(t *testing.T) {
	for i, p := range append(pattest.Wrong(), pattest.Endless()...) {
		if s, e := Print(p); s != "" || e != api.ErrForm {
			t.Errorf("%d: %q %d", i, s, e)
		}
	}
}

// P7.2, P7.3: a text may be longer than Parse reads, and say more than may be.
func TestPrintLarge(t *testing.T) {
	var ends []uint32
	var numbers []string
	for i := range uint32(256) {
		ends = append(ends, 2*i, 2*i)
		numbers = append(numbers, strconv.Itoa(int(2*i)))
	}
	wide := "(" + strings.Join(numbers, "|") + ")"
	if s, e := Print(cat(times(199, one(ends...))...)); s != row(199, wide, " ") || e != api.OK {
		t.Error(len(s), e)
	}
	s, e := Print(cat(times(199, num(last))...))
	if s != row(199, "4294967295", " ") || e != api.OK {
		t.Error(s, e)
	}
	if _, e := Parse(s); e != api.ErrFull {
		t.Error(e)
	}
	for n, want := range map[int]api.Errno{199: api.OK, 200: api.ErrFull} {
		s, _ := Print(one(ends[:2*n]...))
		if p, e := Parse(s); e != want || e == api.OK && !pat.Match(p, []uint32{396}) {
			t.Error(n, p, e)
		}
	}
}

// takeTheSame says whether two patterns do, at some short paths.
func takeTheSame(p, q api.Pat) bool {
	for _, l := range shortPaths(3, 0, 1, 2, 4, 9, last) {
		if pat.Match(p, l) != pat.Match(q, l) {
			return false
		}
	}
	return true
}

// P7.3: what is printed is parsed as a pattern that takes the same paths.
func TestBack(t *testing.T) {
	for _, p := range patterns(1500) {
		s, _ := Print(p)
		if back, e := Parse(s); e != api.OK || !takeTheSame(p, back) {
			t.Fatalf("%v is printed as %q: %v %d", p, s, back, e)
		}
	}
}

// P7.3: what a text says is printed, and parsed, as one that takes the same paths.
func TestBackOfTexts(t *testing.T) {
	chance := rand.New(rand.NewPCG(79, 80))
	for range 500 {
		x := drawnText(chance, 2).text()
		p, e := Parse(x)
		if e != api.OK {
			continue
		}
		s, e := Print(p)
		back, f := Parse(s)
		if e != api.OK || f != api.OK || !takeTheSame(p, back) {
			t.Fatalf("%q is printed as %q: %d, %v %d", x, s, e, back, f)
		}
	}
}

// Rule 4: what is handed in stays as it was, its spare room too.
func TestArgumentsStay(t *testing.T) {
	for _, p := range append(patterns(200), one(9, 12, 3, 3, 4, 4), api.Pat{Kind: 7}) {
		if !pattest.Stays(p, func(given api.Pat) { Print(given) }) {
			t.Fatal(p)
		}
	}
}

// Rule 4: no two lists of what Parse answers share memory, nor do two answers.
func TestParseIsNew(t *testing.T) {
	for _, s := range []string{"", ".", "1+", ".+", "(1 2)++", "(1|.)+?*", "!+", "(1-2*)+.+", "1?+|.?", "..|.", "1 2 3 4 5", "1{3}", ".{2,}", "(1 .){1,3}", ".{2}{0,2}{1,}", "1{2}|1{2}"} {
		if !pattest.New(func() api.Pat { p, _ := Parse(s); return p }) {
			t.Errorf("%q", s)
		}
	}
}

// Rule 3: nil and empty lists are one.
func TestEmptyLists(t *testing.T) {
	hollow := api.Pat{Kind: api.Cat, Set: []api.Span{}, Subs: []api.Pat{}}
	none := api.Pat{Kind: api.One, Set: []api.Span{}, Subs: []api.Pat{}}
	if s, e := Print(alt(hollow, none)); s != "|!" || e != api.OK {
		t.Error(s, e)
	}
}

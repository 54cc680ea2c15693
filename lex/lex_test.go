package lex

import (
	"math"
	"regexp"
	"slices"
	"strings"
	"testing"

	"muntin/api"
)

// short is so much of a list as one likes to read.
func short[T any](all []T) []T { return all[:min(len(all), 20)] }

// head is so much of a text as one likes to read.
func head(s string) string { return s[:min(len(s), 80)] }

// eachText goes through all texts of at most n of some bytes.
func eachText(bytes string, n int, do func(s string)) { eachTextFrom("", bytes, n, do) }

// eachTextFrom goes through a text, and all that have at most n bytes more behind it.
func eachTextFrom(s, bytes string, n int, do func(s string)) {
	do(s)
	if n == 0 {
		return
	}
	for i := range len(bytes) {
		eachTextFrom(s+bytes[i:i+1], bytes, n-1, do)
	}
}

func TestEachTextIsGoneThroughOnce(t *testing.T) {
	met := map[string]int{}
	eachText("abc", 3, func(s string) { met[s]++ })
	if len(met) != 1+3+9+27 || met[""] != 1 || met["b"] != 1 || met["cab"] != 1 {
		t.Errorf("%d texts are gone through: %v", len(met), met)
	}
}

func checkLines(t *testing.T, s string, want []string, err api.Errno) {
	t.Helper()
	if got, e := Lines(s); !slices.Equal(got, want) || e != err {
		t.Errorf("Lines(%q) is %q, %d, not %q, %d", head(s), short(got), e, short(want), err)
	}
}

func checkWords(t *testing.T, line string, want ...string) {
	t.Helper()
	if got, ok := Words(line); !slices.Equal(got, want) || ok != (len(want) > 0) {
		t.Errorf("Words(%q) is %q, %v, not %q", head(line), short(got), ok, short(want))
	}
}

func checkNumber(t *testing.T, word string, most, want int, is bool) {
	t.Helper()
	if got, ok := Number(word, most); got != want || ok != is {
		t.Errorf("Number(%q, %d) is %d, %v, not %d, %v", head(word), most, got, ok, want, is)
	}
}

// checkNoNumber: a word that is none, whatever may be.
func checkNoNumber(t *testing.T, word string) {
	t.Helper()
	for _, most := range ints {
		checkNumber(t, word, most, 0, false)
	}
}

var ints = []int{math.MinInt, math.MinInt + 1, -1, 0, 1, 9, 10, api.MaxValue, 9999999, 10000000, math.MaxInt - 1, math.MaxInt}

func TestP7_1LinesByHand(t *testing.T) {
	for _, x := range []struct {
		s    string
		want []string
		err  api.Errno
	}{
		{"", nil, api.OK},
		{"\n", []string{""}, api.OK},
		{"\n\n\n", []string{"", "", ""}, api.OK},
		{"a\n", []string{"a"}, api.OK},
		{"a\n\n", []string{"a", ""}, api.OK},
		{"\na\n", []string{"", "a"}, api.OK},
		{"shape pp\n0 E 1\nend\n", []string{"shape pp", "0 E 1", "end"}, api.OK},
		{"b\na\nb\n", []string{"b", "a", "b"}, api.OK},
		{" \n  a \n", []string{" ", "  a "}, api.OK},
		{"a", nil, api.ErrSyntax},
		{" ", nil, api.ErrSyntax},
		{"a\nb", nil, api.ErrSyntax},
		{"a\n ", nil, api.ErrSyntax},
		{"\n\r", nil, api.ErrSyntax},
		{"\nend", nil, api.ErrSyntax},
	} {
		checkLines(t, x.s, x.want, x.err)
	}
}

// Nothing but the byte 10 ends a line, and all other bytes are its own.
func TestP7_1OnlyALineFeedEndsALine(t *testing.T) {
	for b := range 256 {
		one := string([]byte{byte(b)})
		if one == "\n" {
			continue
		}
		checkLines(t, one, nil, api.ErrSyntax)
		checkLines(t, "a\n"+one, nil, api.ErrSyntax)
		checkLines(t, one+"\n", []string{one}, api.OK)
		checkLines(t, "a"+one+"b\n"+one+one+"\n", []string{"a" + one + "b", one + one}, api.OK)
	}
	for _, end := range []string{"\r\n", "\u2028", "\u2029", "\u0085", "\u240a", "\\n", "\u010a", "\xc0\x8a"} {
		checkLines(t, "a"+end+"b\n", strings.Split("a"+end+"b", "\n"), api.OK)
		if !strings.HasSuffix(end, "\n") {
			checkLines(t, "a"+end, nil, api.ErrSyntax)
		}
	}
}

// Each text is its lines with a line feed behind each, and no line has one of its own.
func TestP7_1LinesOfAllShortTexts(t *testing.T) {
	eachText("a \n\r\xff", 6, func(s string) {
		lines, err := Lines(s)
		if s != "" && s[len(s)-1] != '\n' {
			if len(lines) > 0 || err != api.ErrSyntax {
				t.Fatalf("Lines(%q) is %q, %d", s, lines, err)
			}
			return
		}
		back := ""
		for _, line := range lines {
			back += line + "\n"
		}
		if back != s || len(lines) != strings.Count(s, "\n") || err != api.OK {
			t.Fatalf("Lines(%q) is %q, %d", s, lines, err)
		}
	})
}

func TestP7_1HowLongATextMayBe(t *testing.T) {
	long := strings.Repeat("a", api.MaxText-1)
	checkLines(t, long+"\n", []string{long}, api.OK)
	checkLines(t, strings.Repeat("\n", api.MaxText), make([]string, api.MaxText), api.OK)
	checkLines(t, strings.Repeat("b\n", api.MaxText/2), slices.Repeat([]string{"b"}, api.MaxText/2), api.OK)
	checkLines(t, long+"a", nil, api.ErrSyntax)
	// What is too long is told ahead of how it ends.
	for _, end := range []string{"\n", "a", "\n\n", "\na", "a\n", "aa"} {
		checkLines(t, long+"a"+end, nil, api.ErrLong)
	}
	checkLines(t, strings.Repeat("\n", api.MaxText+1), nil, api.ErrLong)
	checkLines(t, strings.Repeat("a\n", 4*api.MaxText), nil, api.ErrLong)
	// It is bytes that are counted.
	checkLines(t, strings.Repeat("\u20ac", api.MaxText/3)+"\n", []string{strings.Repeat("\u20ac", api.MaxText/3)}, api.OK)
	checkLines(t, strings.Repeat("\u20ac", api.MaxText/3+1)+"\n", nil, api.ErrLong)
}

func TestP7_1Example(t *testing.T) {
	checkWords(t, "0 E 1", "0", "E", "1")
	checkWords(t, "0  E")
}

func TestP7_1WordsByHand(t *testing.T) {
	checkWords(t, "end", "end")
	checkWords(t, "a", "a")
	checkWords(t, "a a a", "a", "a", "a")
	checkWords(t, "shape pbpb", "shape", "pbpb")
	checkWords(t, "7 W 3 LRL", "7", "W", "3", "LRL")
	for _, line := range []string{"", " ", "  ", "   ", " a", "a ", " a ", "  a", "a  ", "a  b", " a b", "a b ", "a b  c", "a   b"} {
		checkWords(t, line)
	}
}

// Nothing but the byte 32 stands between words: all other bytes are theirs.
func TestP7_1OnlyABlankStandsBetweenWords(t *testing.T) {
	others := []string{"\u00a0", "\u1680", "\u2003", "\u200b", "\u2028", "\u3000", "\u0120", "\xc0\xa0", "\r\n"}
	for b := range 256 {
		if b != ' ' {
			others = append(others, string([]byte{byte(b)}))
		}
	}
	for _, one := range others {
		checkWords(t, one, one)
		checkWords(t, one+" "+one+one, one, one+one)
		checkWords(t, "a"+one+"b", "a"+one+"b")
		checkWords(t, " "+one)
		checkWords(t, one+" ")
		checkWords(t, one+"  "+one)
	}
}

func TestP7_1WordsOfAllShortLines(t *testing.T) {
	right := regexp.MustCompile(`\A[^ ]+( [^ ]+)*\z`)
	eachText("ab \t\xff", 6, func(s string) {
		words, ok := Words(s)
		if ok != right.MatchString(s) || !ok && len(words) > 0 {
			t.Fatalf("Words(%q) is %q, %v", s, words, ok)
		}
		if ok && (strings.Join(words, " ") != s || len(words) != 1+strings.Count(s, " ")) {
			t.Fatalf("Words(%q) is %q", s, words)
		}
	})
}

// A line has no greatest length.
func TestP7_1WordsOfLongLines(t *testing.T) {
	many := slices.Repeat([]string{"b"}, 2*api.MaxText)
	line := strings.Join(many, " ")
	checkWords(t, line, many...)
	checkWords(t, line+" ")
	checkWords(t, " "+line)
	checkWords(t, line+"  "+line)
	one := strings.Repeat("a", 2*api.MaxText)
	checkWords(t, one, one)
	checkWords(t, strings.Repeat(" ", 2*api.MaxText))
}

func TestP7_1AnswersAreNewMemory(t *testing.T) {
	lines, _ := Lines("a\nb\n")
	others, _ := Lines("a\nb\n")
	lines[0] = "c"
	_ = append(lines, "d")
	words, _ := Words("a b")
	more, _ := Words("a b")
	words[1] = "c"
	_ = append(words, "d")
	if !slices.Equal(others, []string{"a", "b"}) || !slices.Equal(more, []string{"a", "b"}) {
		t.Errorf("answers share memory: %q, %q", others, more)
	}
	checkLines(t, "a\nb\n", []string{"a", "b"}, api.OK)
	checkWords(t, "a b", "a", "b")
}

func TestP7_2NumbersByHand(t *testing.T) {
	for _, x := range []struct {
		word string
		want int
	}{
		{"0", 0}, {"1", 1}, {"9", 9}, {"10", 10}, {"90", 90}, {"100", 100}, {"4095", 4095}, {"4096", 4096},
		{"1000000", api.MaxValue}, {"1000001", 1000001}, {"1234567", 1234567}, {"7654321", 7654321}, {"9999999", 9999999},
	} {
		for _, most := range append([]int{x.want - 1, x.want, x.want + 1}, ints...) {
			if most < x.want {
				checkNumber(t, x.word, most, 0, false)
			} else {
				checkNumber(t, x.word, most, x.want, true)
			}
		}
	}
}

func TestP7_2WordsThatAreNoNumbers(t *testing.T) {
	for _, word := range []string{
		"", "00", "01", "000", "007", "0000000", "0000001", "00000000", "00000001", "09", "0123456", "0x1", "0b1", "0o7", "1_0", "1e3",
		"-", "+", "-0", "+0", "-1", "+1", "--1", "1-", "1+1", "1.", ".1", "1.0", "1,0", " ", " 1", "1 ", "1 2", "1\n", "\n1", "1\r", "\t1",
		"1\x00", "\x001", "x", "1x", "x1", "O", "l", "inf", "NaN", "E", "end",
		// One digit too many, and so many that they would be small again after a wrap.
		"10000000", "99999999", "12345678", "4294967297", "18446744073709551616", "18446744073709551617",
		"340282366920938463463374607431768211457", strings.Repeat("9", 100000), strings.Repeat("0", 100000), strings.Repeat("0", 100000) + "1",
		// Digits of other kinds, and bytes that are none.
		"\u0663", "1\u0663", "\u0967", "\uff11", "\uff10", "\u00b2", "\u00bd", "\u2460", "\U0001d7ce", "\u0130", "\u2212" + "1", "\ufeff1",
		"\xff", "1\xff", "\xff1", "\xc3", "1\xc3", "\xb1", "\xc0\xb1", "\xe0\x80\xb1",
	} {
		checkNoNumber(t, word)
	}
}

func TestP7_2NumbersOfAllShortWords(t *testing.T) {
	right := regexp.MustCompile(`\A(0|[1-9][0-9]{0,6})\z`)
	// A slash and a colon are the digits' neighbours.
	eachText("0159/:-+ x", 5, func(s string) {
		n, ok := Number(s, math.MaxInt)
		if ok != right.MatchString(s) || ok && Digits(n) != s || !ok && n != 0 {
			t.Fatalf("Number(%q) is %d, %v", s, n, ok)
		}
	})
	counted := 0
	eachText("019", 9, func(s string) {
		n, ok := Number(s, 9999999)
		if ok != right.MatchString(s) || ok && Digits(n) != s {
			t.Fatalf("Number(%q) is %d, %v", s, n, ok)
		}
		if ok {
			counted++
		}
	})
	if want := 1 + 2*(1+3+9+27+81+243+729); counted != want {
		t.Errorf("%d words of 0, 1 and 9 are numbers, not %d", counted, want)
	}
}

func TestP7_2OneByteOtherwise(t *testing.T) {
	const word = "2305607"
	for i := range len(word) {
		for b := range 256 {
			changed := word[:i] + string([]byte{byte(b)}) + word[i+1:]
			if b < '0' || b > '9' || i == 0 && b == '0' {
				checkNoNumber(t, changed)
				continue
			}
			n, ok := Number(changed, 9999999)
			if !ok || Digits(n) != changed {
				t.Errorf("Number(%q) is %d, %v", changed, n, ok)
			}
		}
	}
}

func TestP7_2DigitsByHand(t *testing.T) {
	for _, x := range []struct {
		n    int
		want string
	}{
		{0, "0"}, {1, "1"}, {-1, "-1"}, {9, "9"}, {10, "10"}, {-10, "-10"}, {-30, "-30"}, {99, "99"}, {100, "100"}, {101, "101"},
		{api.MaxValue, "1000000"}, {-api.MaxValue, "-1000000"}, {9999999, "9999999"}, {10000000, "10000000"}, {1 << 40, "1099511627776"},
		{math.MaxInt64, "9223372036854775807"}, {math.MinInt64, "-9223372036854775808"}, {math.MinInt64 + 1, "-9223372036854775807"},
	} {
		if got := Digits(x.n); got != x.want {
			t.Errorf("Digits(%d) is %q, not %q", x.n, got, x.want)
		}
	}
}

// plainDigits are told digit by digit, from the last one on.
func plainDigits(n int) string {
	s := ""
	for s == "" || n > 0 {
		s = string("0123456789"[n%10:n%10+1]) + s
		n /= 10
	}
	return s
}

func TestP7_2DigitsAreNumbersAgain(t *testing.T) {
	check := func(n int) {
		s := plainDigits(n)
		if got := Digits(n); got != s {
			t.Fatalf("Digits(%d) is %q, not %q", n, got, s)
		}
		if n > 0 && Digits(-n) != "-"+s {
			t.Fatalf("Digits(%d) is %q, not %q", -n, Digits(-n), "-"+s)
		}
		if got, ok := Number(s, n); ok != (n <= 9999999) || ok && got != n {
			t.Fatalf("Number(%q, %d) is %d, %v", s, n, got, ok)
		}
		checkNumber(t, s, n-1, 0, false)
		checkNumber(t, "0"+s, n, 0, false)
	}
	for n := range 20000 {
		check(n)
	}
	for n := 20000; n < 12000000; n += 97 {
		check(n)
	}
}

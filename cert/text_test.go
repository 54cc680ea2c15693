package cert

import (
	"math"
	"regexp"
	"slices"
	"strconv"
	"strings"
	"testing"

	"muntin/api"
	"muntin/flow"
)

func checkPrint(t *testing.T, x, f []int, want string) {
	t.Helper()
	givenX, givenF := slices.Clone(x), slices.Clone(f)
	if got := Print(x, f); got != want {
		t.Errorf("Print(%v, %v) is %q, not %q", short(x), short(f), got[:min(len(got), 80)], want[:min(len(want), 80)])
	}
	if !slices.Equal(x, givenX) || !slices.Equal(f, givenF) {
		t.Errorf("Print(%v, %v) changed what it was given", short(givenX), short(givenF))
	}
}

func checkParse(t *testing.T, s string, x, f []int, want api.Errno) {
	t.Helper()
	gotX, gotF, err := Parse(s)
	if !slices.Equal(gotX, x) || !slices.Equal(gotF, f) || err != want {
		t.Errorf("Parse(%q) is %v, %v, %d, not %v, %v, %d", s[:min(len(s), 80)], short(gotX), short(gotF), err, short(x), short(f), want)
	}
}

// checkText holds Print and Parse against a proof and its text.
func checkText(t *testing.T, x, f []int, text string) {
	t.Helper()
	checkPrint(t, x, f, text)
	checkParse(t, text, x, f, api.OK)
}

func TestP6_3Example(t *testing.T) {
	checkText(t, []int{0, 1}, []int{3}, "x 0 1 f 3")
}

func TestP6_3TextsByHand(t *testing.T) {
	checkText(t, nil, nil, "x f")
	checkText(t, []int{}, []int{}, "x f")
	checkText(t, []int{0}, nil, "x 0 f")
	checkText(t, nil, []int{0}, "x f 0")
	checkText(t, []int{0, -1}, nil, "x 0 -1 f")
	checkText(t, []int{10, -10, 100}, []int{12345678901234567, 0, 0}, "x 10 -10 100 f 12345678901234567 0 0")
	checkText(t, []int{-api.MaxValue, api.MaxValue}, []int{1 << 40}, "x -1000000 1000000 f 1099511627776")
}

// A text's numbers may be any ints: whether they prove something is Check's to tell.
func TestP6_3AnyInts(t *testing.T) {
	all := []int{math.MinInt, math.MinInt + 1, -api.MaxValue - 1, -1, 0, 1, api.MaxValue + 1, 1<<40 + 1, math.MaxInt - 1, math.MaxInt}
	for _, v := range all {
		checkText(t, []int{v}, nil, "x "+strconv.Itoa(v)+" f")
		checkText(t, nil, []int{v}, "x f "+strconv.Itoa(v))
	}
	checkText(t, all[:2], all[8:], "x -9223372036854775808 -9223372036854775807 f 9223372036854775806 9223372036854775807")
}

// words that are no numbers of a proof.
var noNumbers = []string{
	"", "-", "+", "--1", "-+1", "+-1", "+0", "+1", "-0", "00", "01", "-00", "-01", "007", "1-", "1-1", "1+1", "- 1",
	"1.", "1.0", ".1", "1e3", "1_0", "0_1", "0x1", "0b1", "0o7", "x", "X", "f", "F", "xf", "x1", "1f", "f1", "inf", "nan",
	"1,", ",", "1;", "(1)", "a", "O", "l", "\x00", "1\x00", "\t", "1\t", "\t1", "\n", "1\n", "\n1", "\r", "1\r", "\v", "\f",
	"\u00a0", "1\u00a0", "\u2003", "\u2212", "\u22121", "\u0661", "\uff11", "\u00b2", "\xff", "1\xff", "\xc3", "\ufeff1",
	"9223372036854775808", "-9223372036854775809", "18446744073709551615", "18446744073709551616", "18446744073709551617",
	"36893488147419103233", "99999999999999999999", "-99999999999999999999", strings.Repeat("1", 1000), "-" + strings.Repeat("9", 100000),
	strings.Repeat("0", 100000) + "1",
}

func TestP6_3WordsThatAreNoNumbers(t *testing.T) {
	for _, word := range noNumbers {
		for _, text := range []string{
			"x " + word + " f", "x f " + word, "x " + word + " 1 f 2", "x 1 " + word + " f 2",
			"x 1 f " + word + " 2", "x 1 f 2 " + word, word + " x f", word + " f", "x " + word,
		} {
			// Where the word is an f or an x itself, a text may come of it that is right.
			if text != "x f" {
				checkParse(t, text, nil, nil, api.ErrSyntax)
			}
		}
	}
}

func TestP6_3WhatIsNoProofsText(t *testing.T) {
	for _, text := range []string{
		"", " ", "x", "f", "xf", "f x", "f 1", "x 1", "1", "1 2", "x 1 2", "x x f", "x f f", "x f x", "x 1 f 1 f", "x 1 f 1 f 1",
		" x f", "x f ", "x  f", "x f  1", "x f 1 ", "x f 1  2", "x 1  f", "x  1 f", "  x f", "x f\n", "x\nf", "x\tf", "\nx f", "\ufeffx f",
		"X f", "x F", "X F", "y f", "x g", "x: f", "x 1f", "x1 f", "x 1 f1", "x 1, 2 f", "x f\x00", "x\x00f", "x\u00a0f", "xx f", "x ff",
		"a x f", "1 x f", "x f 1 x", "f x f", "f f", "x 0 1 f 3\nx 0 1 f 3", "x 0 1 f 3 x 0 1 f 3",
	} {
		checkParse(t, text, nil, nil, api.ErrSyntax)
	}
}

// proofText is a proof's text, as the chapter tells it; the numbers' size aside.
var proofText = regexp.MustCompile(`\Ax( (0|-?[1-9][0-9]*))* f( (0|-?[1-9][0-9]*))*\z`)

// checkAgainst the chapter's words what is told of a text without great numbers; tells whether it is a proof's.
func checkAgainst(t *testing.T, s string) bool {
	t.Helper()
	x, f, err := Parse(s)
	right := proofText.MatchString(s)
	if right != (err == api.OK) || !right && (err != api.ErrSyntax || len(x) > 0 || len(f) > 0) {
		t.Fatalf("Parse(%q) is %v, %v, %d", s, x, f, err)
	}
	if right && Print(x, f) != s {
		t.Fatalf("%q is parsed as %v, %v: printed, that is %q", s, x, f, Print(x, f))
	}
	return right
}

func TestP6_3AllShortTexts(t *testing.T) {
	const letters = "xf 019-+"
	right := 0
	for n := range 8 {
		eachRow(n, len(letters), func(row []int) {
			s := make([]byte, n)
			for i, at := range row {
				s[i] = letters[at]
			}
			if checkAgainst(t, string(s)) {
				right++
			}
		})
	}
	// x f; with one number of one to three digits or of a sign and one or two; with two numbers of one digit.
	if want := 1 + 2*(3+6+2+18+6) + 3*9; right != want {
		t.Errorf("%d of all short texts are proofs', not %d", right, want)
	}
}

func TestP6_3OneByteOtherwise(t *testing.T) {
	const text = "x 0 -10 7 f 20 0 -3"
	for i := range len(text) + 1 {
		for b := range 256 {
			one := string([]byte{byte(b)})
			checkAgainst(t, text[:i]+one+text[i:])
			if i < len(text) {
				checkAgainst(t, text[:i]+one+text[i+1:])
				checkAgainst(t, text[:i]+text[i+1:])
			}
		}
	}
}

func TestP6_3AnyBytes(t *testing.T) {
	c := chances(65)
	for range 20000 {
		s := []byte("x 5 f 3")
		for range 1 + c.below(4) {
			s = slices.Insert(s, c.below(len(s)+1), byte(c.below(256)))
		}
		checkAgainst(t, string(s))
		checkAgainst(t, string(s[c.below(len(s)):]))
	}
}

func TestP6_3WhatIsPrintedIsParsed(t *testing.T) {
	c := chances(66)
	numbers := func() []int {
		all := make([]int, c.below(10))
		for i := range all {
			all[i] = int(uint64(c.below(1<<31))<<33|uint64(c.below(1<<31))<<3|uint64(c.below(8))) >> c.below(64)
		}
		return all
	}
	for range 2000 {
		x, f := numbers(), numbers()
		checkParse(t, Print(x, f), x, f, api.OK)
	}
	for range 50 {
		n := 2 + c.below(50)
		arcs := c.dag(n, 4*n, 100)
		r, _ := flow.Solve(n, arcs)
		x, f, err := Parse(Print(r.X, r.Flow))
		if err != api.OK {
			t.Fatalf("of %v: parsing the proof tells %d", short(arcs), err)
		}
		checkCheck(t, n, arcs, x, f, api.OK)
	}
}

func TestP6_3HowLongATextMayBe(t *testing.T) {
	// As many numbers as there is place for, and so much more that it is just too long.
	numbers := make([]int, (api.MaxText-len("x f"))/2)
	text := "x" + strings.Repeat(" 0", len(numbers)-1) + " f 10"
	if len(text) != api.MaxText {
		t.Fatalf("the text has %d bytes", len(text))
	}
	checkParse(t, text, numbers[1:], []int{10}, api.OK)
	checkParse(t, text+"0", nil, nil, api.ErrLong)
	checkParse(t, text+" 0", nil, nil, api.ErrLong)
	// What is too long is told ahead of what is no proof's.
	for _, one := range []string{" ", "x", "1", "-", "\xff", "\n"} {
		checkParse(t, strings.Repeat(one, api.MaxText), nil, nil, api.ErrSyntax)
		checkParse(t, strings.Repeat(one, api.MaxText+1), nil, nil, api.ErrLong)
		checkParse(t, "x "+strings.Repeat(one, api.MaxText-4)+" f", nil, nil, api.ErrSyntax)
		checkParse(t, "x "+strings.Repeat(one, api.MaxText-3)+" f", nil, nil, api.ErrLong)
	}
	checkParse(t, strings.Repeat("x f ", 2*api.MaxText), nil, nil, api.ErrLong)
}

// Print has no such bound.
func TestP6_3LongTextsArePrinted(t *testing.T) {
	x := make([]int, api.MaxText)
	checkPrint(t, x, x, "x"+strings.Repeat(" 0", len(x))+" f"+strings.Repeat(" 0", len(x)))
}

func TestP6_3AnswersAreNewMemory(t *testing.T) {
	x, f, _ := Parse("x 0 1 f 3 4")
	otherX, otherF, _ := Parse("x 0 1 f 3 4")
	x[0], f[0] = 8, 9
	// Nor is there room in common behind them.
	_, _ = append(x, 70, 71, 72), append(otherF, 73)
	if !slices.Equal(x, []int{8, 1}) || !slices.Equal(f, []int{9, 4}) || !slices.Equal(otherX, []int{0, 1}) || !slices.Equal(otherF, []int{3, 4}) {
		t.Errorf("%v, %v, %v and %v share memory", x, f, otherX, otherF)
	}
	numbers := []int{0, 1, -5}
	text := Print(numbers[:2], numbers[2:])
	clear(numbers)
	if text != "x 0 1 f -5" {
		t.Errorf("the text was changed by way of the numbers: %q", text)
	}
}

func TestP6_3WhatLiesBehindTheListsIsNotPrinted(t *testing.T) {
	numbers := []int{4, 5, 6}
	checkPrint(t, numbers[:1], numbers[1:2], "x 4 f 5")
	checkPrint(t, numbers[:0], numbers[2:], "x f 6")
}

package cert

import (
	"slices"
	"strconv"
	"strings"

	"muntin/api"
)

// The words ahead of a proof's coordinates, and of its flow.
const (
	coordinatesWord = "x"
	flowWord        = "f"
)

// Print a proof.
func Print(x, flow []int) string {
	var text strings.Builder
	text.WriteString(coordinatesWord)
	writeNumbers(&text, x)
	text.WriteString(" " + flowWord)
	writeNumbers(&text, flow)
	return text.String()
}

func writeNumbers(text *strings.Builder, numbers []int) {
	for _, v := range numbers {
		text.WriteString(" " + strconv.Itoa(v))
	}
}

// Parse a proof.
func Parse(s string) ([]int, []int, api.Errno) {
	if len(s) > api.MaxText {
		return nil, nil, api.ErrLong
	}
	words := strings.Split(s, " ")
	middle := slices.Index(words, flowWord)
	if words[0] != coordinatesWord || middle < 0 {
		return nil, nil, api.ErrSyntax
	}
	x, xGood := readNumbers(words[1:middle])
	flow, flowGood := readNumbers(words[middle+1:])
	if !xGood || !flowGood {
		return nil, nil, api.ErrSyntax
	}
	return x, flow, api.OK
}

// readNumbers of words; nothing and false, if one is no number.
func readNumbers(words []string) ([]int, bool) {
	if slices.ContainsFunc(words, func(word string) bool { return !isNumber(word) }) {
		return nil, false
	}
	numbers := make([]int, len(words))
	for i, word := range words {
		numbers[i], _ = strconv.Atoi(word)
	}
	return numbers, true
}

// isNumber: is the word an int as it would be printed?
func isNumber(word string) bool {
	v, err := strconv.Atoi(word)
	// Atoi takes more than a proof may have: +1, 01, -0.
	return err == nil && strconv.Itoa(v) == word
}

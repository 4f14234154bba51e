// Package numbered names files that have a number: a prefix and six decimal digits, for all layers that have such files.
package numbered

import (
	"strconv"
	"strings"
)

// Max: the greatest number of a file; the least is 1.
const Max = 999_999

// Name: of the file with this number; the empty text, which is no file's name, for a number that none has: what would be its name with seven digits may be somebody else's file.
func Name(prefix string, n int) string {
	if n < 1 || n > Max {
		return ""
	}
	digits := strconv.Itoa(Max + 1 + n)[1:] // without the 1 that keeps the zeros in front
	return prefix + digits
}

// Number: that of the file with this name; 0 if it is not of this prefix, or not exactly such a name.
func Number(prefix, name string) int {
	n, err := strconv.Atoi(strings.TrimPrefix(name, prefix))
	if err != nil || Name(prefix, n) != name {
		return 0
	}
	return n
}

// All: the numbers of those of a drive's names that are of this prefix. Names increase, and with six digits each so do the numbers.
func All(prefix string, names []string) []int {
	var numbers []int
	for _, name := range names {
		if n := Number(prefix, name); n > 0 {
			numbers = append(numbers, n)
		}
	}
	return numbers
}

package field

import (
	"math"
	"strconv"
	"strings"
)

// How many digits a code has, and of which base they are.
const (
	leastDigits = 4
	mostDigits  = 6
	base        = 16
)

// digits tells the numbers of digits.
type digits map[rune]int

// hex is made anew each time, as no map stands at package level.
func hex() digits {
	d := digits{}
	for i, r := range "0123456789abcdef" {
		d[r] = i
	}
	for i, r := range "ABCDEF" {
		d[r] = 10 + i
	}
	return d
}

// code tells the number that a code says. What has digits alone has a byte for each.
func (d digits) code(s string) (int, bool) {
	n := 0
	if len(s) < leastDigits || len(s) > mostDigits {
		goto none
	}
	for _, r := range s {
		x, ok := d[r]
		if !ok {
			goto none
		}
		n = n*base + x
	}
	return n, true
none:
	return 0, false
}

func (d digits) codes(s string) ([]int, bool) {
	var l []int
	if strings.HasPrefix(s, " ") || strings.HasSuffix(s, " ") {
		goto none
	}
	for c := range strings.SplitSeq(s, " ") {
		// Where several blanks stand between two codes, nothing stands between these blanks.
		if c == "" {
			continue
		}
		n, ok := d.code(c)
		if !ok {
			goto none
		}
		l = append(l, n)
	}
	return l, true
none:
	return nil, false
}

// putCode lays the code of any number behind what b has.
func putCode(b []byte, n int) []byte {
	if n < 0 {
		b = append(b, '-')
		n = unsigned(n)
	}
	s := strings.ToUpper(strconv.FormatInt(int64(n), base))
	for range leastDigits - len(s) {
		b = append(b, '0')
	}
	return append(b, s...)
}

// unsigned tells a number below 0 without its sign; the least one of all has none such, and is 0.
func unsigned(n int) int {
	if n == math.MinInt {
		return 0
	}
	return -n
}

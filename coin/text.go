package coin

import (
	"strconv"
	"strings"

	"cubit/api"
)

const slash = "/"

// Text writes c in the one way that Parse reads.
func Text(c api.Coin) (string, api.Errno) {
	if e := Check(c); e != api.OK {
		return "", e
	}
	return strconv.FormatUint(c.Num, 10) + slash + strconv.FormatUint(coins(c.Len), 10), api.OK
}

// Parse reads what Text writes, and nothing else: what was read must be written so again.
func Parse(s string) (api.Coin, api.Errno) {
	c := read(s)
	if t, e := Text(c); e != api.OK || t != s {
		return api.Coin{}, api.ErrNumber
	}
	return c, api.OK
}

// read is right for all that Text writes; of any other text it tells some coin or other, which is written otherwise.
func read(s string) api.Coin {
	above, under, _ := strings.Cut(s, slash)
	num, e := strconv.ParseUint(above, 10, 64)
	if e != nil {
		num = 0
	}
	return api.Coin{Num: num, Len: lengthOf(under)}
}

// lengthOf is the n of which s tells 2^n; 0, if there is none.
func lengthOf(s string) int {
	for n := range api.MaxCoin + 1 {
		if s == strconv.FormatUint(coins(n), 10) {
			return n
		}
	}
	return 0
}

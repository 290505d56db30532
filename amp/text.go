package amp

import (
	"strconv"
	"strings"

	"cubit/api"
	"cubit/gauss"
)

const (
	between   = ","
	overPower = "/"
)

// Text writes a in a way that Parse reads.
func Text(a api.Amp) (string, api.Errno) {
	if e := Check(a); e != api.OK {
		return "", e
	}
	first, e := gauss.Text(a.R.A)
	if e != api.OK {
		return "", e
	}
	second, e := gauss.Text(a.R.B)
	if e != api.OK {
		return "", e
	}
	s := first + between + second
	if a.K != 0 {
		s += overPower + strconv.Itoa(a.K)
	}
	return s, api.OK
}

// Parse reads what Text writes, and such texts of what isn't in its one form too. A text is told wrong (ErrNumber) ahead of being told great (ErrBig).
func Parse(s string) (api.Amp, api.Errno) {
	value, power, stroke := strings.Cut(s, overPower)
	first, second, two := strings.Cut(value, between)
	x, e := gauss.Parse(first)
	y, f := gauss.Parse(second)
	k, read := readPower(power)
	if !two || stroke && !read || e == api.ErrNumber || f == api.ErrNumber {
		return api.Amp{}, api.ErrNumber
	}
	if e != api.OK || f != api.OK {
		return api.Amp{}, api.ErrBig
	}
	return Make(api.Ring{A: x, B: y}, k)
}

// readPower reads one to three digits, the first of them no 0; 0 and false, if s is none such.
func readPower(s string) (int, bool) {
	if s == "" || len(s) > 3 || s[0] == '0' {
		return 0, false
	}
	k := 0
	for i := range len(s) {
		if s[i] < '0' || s[i] > '9' {
			return 0, false
		}
		k = 10*k + int(s[i]-'0')
	}
	return k, true
}

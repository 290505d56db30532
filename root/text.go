package root

import (
	"strconv"
	"strings"

	"cubit/api"
)

const overPower = "/2^"

// Text writes a in the one way that Parse reads.
func Text(a api.Root) (string, api.Errno) {
	if e := Check(a); e != api.OK {
		return "", e
	}
	s := ""
	if a.P != 0 || a.Q == 0 {
		s = strconv.FormatInt(a.P, 10)
	}
	if a.Q > 0 && s != "" {
		s += "+"
	}
	if a.Q != 0 {
		s += strconv.FormatInt(a.Q, 10) + "r"
	}
	if a.K != 0 {
		s += overPower + strconv.Itoa(a.K)
	}
	return s, api.OK
}

// Parse reads what Text writes, and nothing else: what was read must be written so again.
func Parse(s string) (api.Root, api.Errno) {
	a := read(s)
	if t, e := Text(a); e != api.OK || t != s {
		return api.Root{}, api.ErrNumber
	}
	return a, api.OK
}

// read is right for all that Text writes; of any other text it tells some root or other, which is written otherwise.
func read(s string) api.Root {
	value, power, _ := strings.Cut(s, overPower)
	p, q := split(value)
	return api.Root{P: whole(p), Q: whole(q), K: int(whole(power))}
}

// split finds the texts of P and Q, each empty where it isn't written. Q begins at the last sign, or at the beginning.
func split(value string) (p, q string) {
	body, found := strings.CutSuffix(value, "r")
	if !found {
		return value, ""
	}
	at := max(strings.LastIndexAny(body, "+-"), 0)
	return body[:at], body[at:]
}

// whole is 0 of an empty text: what isn't written is 0.
func whole(s string) int64 {
	n, e := strconv.ParseInt(s, 10, 64)
	if e != nil {
		return 0
	}
	return n
}

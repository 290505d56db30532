package gauss

import (
	"strconv"
	"strings"

	"cubit/api"
)

// Text writes x in the one way that Parse reads.
func Text(x complex128) (string, api.Errno) {
	if e := Check(x); e != api.OK {
		return "", e
	}
	a, b := int64(real(x)), int64(imag(x))
	switch {
	case b == 0:
		return strconv.FormatInt(a, 10), api.OK
	case a == 0:
		return imaginaryText(b), api.OK
	case b > 0:
		return strconv.FormatInt(a, 10) + "+" + imaginaryText(b), api.OK
	}
	return strconv.FormatInt(a, 10) + imaginaryText(b), api.OK
}

// imaginaryText of b, which isn't 0: a 1 isn't written.
func imaginaryText(b int64) string {
	switch b {
	case 1:
		return "i"
	case -1:
		return "-i"
	}
	return strconv.FormatInt(b, 10) + "i"
}

// Parse reads what Text writes, and nothing else. A text is told wrong (ErrNumber) ahead of being told great (ErrBig).
func Parse(s string) (complex128, api.Errno) {
	if s == "0" {
		return 0, api.OK
	}
	a, b, ok := readNumber(s)
	if !ok {
		return 0, api.ErrNumber
	}
	if !within(a, b) {
		return 0, api.ErrBig
	}
	return complex(a, b), api.OK
}

// readNumber reads the parts of a number other than 0. The imaginary part begins at the last sign.
func readNumber(s string) (a, b float64, ok bool) {
	body, imaginary := strings.CutSuffix(s, "i")
	if !imaginary {
		a, ok = readReal(s)
		return a, 0, ok
	}
	at := strings.LastIndexAny(body, "+-")
	if at <= 0 {
		b, ok = readImaginary(body)
		return 0, b, ok
	}
	if a, ok = readReal(body[:at]); !ok {
		return 0, 0, false
	}
	b, ok = readImaginary(strings.TrimPrefix(body[at:], "+"))
	return a, b, ok
}

// readReal reads a real part, which is not 0 where it is written (but for the text 0 itself).
func readReal(s string) (float64, bool) {
	digits, below := strings.CutPrefix(s, "-")
	p, ok := readDigits(digits)
	if below {
		p = -p
	}
	return p, ok
}

// readImaginary reads an imaginary part without its i: a 1 is not written.
func readImaginary(s string) (float64, bool) {
	switch s {
	case "":
		return 1, true
	case "-":
		return -1, true
	case "1", "-1":
		return 0, false
	}
	return readReal(s)
}

// readDigits reads a number above 0 without noughts ahead. All numbers beyond MaxPart are told as the first of them, so that a text of any length is read.
func readDigits(s string) (float64, bool) {
	if s == "" || s[0] == '0' {
		return 0, false
	}
	n := int64(0)
	for i := range len(s) {
		if s[i] < '0' || s[i] > '9' {
			return 0, false
		}
		n = min(10*n+int64(s[i]-'0'), api.MaxPart+1)
	}
	return float64(n), true
}

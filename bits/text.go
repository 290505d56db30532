package bits

import "cubit/api"

// Text writes the lowest n bits of x, the highest of them first, if x has no ones beyond them.
func Text(x uint64, n int) (string, api.Errno) {
	if n < 0 || n > width || x>>n != 0 {
		return "", api.ErrArg
	}
	text := make([]byte, n)
	for i := range text {
		text[i] = '0' + byte(bitAt(x, n-1-i))
	}
	return string(text), api.OK
}

// Parse reads what Text writes: the number, and how many bits were written.
func Parse(s string) (uint64, int, api.Errno) {
	if len(s) > width {
		return 0, 0, api.ErrLong
	}
	x := uint64(0)
	for i := range len(s) {
		if s[i] != '0' && s[i] != '1' {
			return 0, 0, api.ErrNumber
		}
		x = x<<1 | uint64(s[i]-'0')
	}
	return x, len(s), api.OK
}

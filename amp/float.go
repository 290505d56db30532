package amp

import (
	"cubit/api"
	"cubit/cx"
)

// Float is the amplitude as a complex number, by stated roundings.
func Float(a api.Amp) (complex128, api.Errno) {
	if e := Check(a); e != api.OK {
		return 0, e
	}
	const half = 0.7071067811865476 // 1 over the square root of 2, and so both parts of w
	z := cx.Add(a.R.A, cx.Mul(a.R.B, complex(half, half)))
	if a.K%2 == 1 {
		z = complex(real(z)*half, imag(z)*half) // by parts, so that each is rounded once
	}
	by := float64(int64(1) << (a.K / 2))
	return cx.Plain(complex(real(z)/by, imag(z)/by)), api.OK
}

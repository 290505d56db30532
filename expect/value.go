package expect

import (
	"cubit/api"
	"cubit/root"
)

// A value is p + q times the square root of 2, p and q of any size that comes up.
type value struct{ p, q whole }

func (v value) plus(u value) value { return value{v.p.plus(u.p), v.q.plus(u.q)} }

func (v value) times(n int64) value { return value{v.p.times(n), v.q.times(n)} }

// over is the root of the value over 2^k, or ErrBig. Its size is looked at behind the halvings alone.
func (v value) over(k int) (api.Root, api.Errno) {
	for k > 0 && v.p.even() && v.q.even() {
		v, k = value{v.p.half(), v.q.half()}, k-1
	}
	p, okP := v.p.narrow()
	q, okQ := v.q.narrow()
	if !okP || !okQ {
		return api.Root{}, api.ErrBig
	}
	return root.Make(p, q, k)
}

// valueOf is the string's value in the state times 2^K. All of it is real, and the square root of 2 is w - w^3: so q is what stands with w, which a turn back by w brings to where p stood.
func valueOf(s api.State, p api.Pauli) value {
	var v value
	for x := range s.Amps {
		r := s.Amps[behind(p, x)]
		v.p = v.p.plus(overlap(r, turned(s, p, x, 0)))
		v.q = v.q.plus(overlap(r, turned(s, p, x, -1)))
	}
	return v
}

// overlap is what stands with 1 in the conjugate of r times s: powers of w meet their own alone there.
func overlap(r, s api.Ring) whole {
	return dot(r.A, s.A).plus(dot(r.B, s.B))
}

// dot is the sum of the products of like parts.
func dot(a, b complex128) whole {
	return product(int64(real(a)), int64(real(b))).plus(product(int64(imag(a)), int64(imag(b))))
}

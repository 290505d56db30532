package coin_test

import "cubit/api"

// A source of coins and weights: the same ones each time.
type source uint64

func (s *source) next() uint64 {
	*s = *s*6364136223846793005 + 1442695040888963407
	return uint64(*s) ^ uint64(*s)>>29
}

func (s *source) below(n int) int { return int(s.next() % uint64(n)) }

// part has a length from 0 to most bits, of which some lowest ones are often 0.
func (s *source) part(most int) int64 {
	length := s.below(most + 1)
	p := int64(s.next() & (1<<length - 1))
	if s.next()&1 == 0 {
		p &^= 1<<s.below(length+1) - 1
	}
	if s.next()&1 == 0 {
		return -p
	}
	return p
}

// root is one in its one form, of any sign.
func (s *source) root(most, powers int) api.Root {
	a := api.Root{P: s.part(most), Q: s.part(most), K: s.below(powers + 1)}
	if a.P == 0 && a.Q == 0 {
		return api.Root{}
	}
	for a.K > 0 && (a.P|a.Q)&1 == 0 {
		a.P, a.Q, a.K = a.P/2, a.Q/2, a.K-1
	}
	return a
}

// weights fit mostly: those below nought are turned, the lesser one comes first.
func (s *source) weights(most, powers int) (one, all api.Root) {
	one, all = s.root(most, powers), s.root(most, powers)
	if s.below(8) == 0 {
		return one, all
	}
	one, all = upright(one), upright(all)
	if valueOf(one).less(valueOf(all)).sign() > 0 {
		return all, one
	}
	return one, all
}

func upright(a api.Root) api.Root {
	if valueOf(a).sign() < 0 {
		a.P, a.Q = -a.P, -a.Q
	}
	return a
}

// coin is a right one of this Len, often at either end or near the edge where the outcome turns.
func (s *source) coin(n int, edge uint64) api.Coin {
	last := uint64(1)<<n - 1
	num := s.next() & last
	switch s.below(4) {
	case 0:
		num = min(edge, last)
	case 1:
		num = min(edge-min(edge, 1), last)
	case 2:
		num = []uint64{0, last}[s.below(2)]
	}
	return api.Coin{Num: num, Len: n}
}
